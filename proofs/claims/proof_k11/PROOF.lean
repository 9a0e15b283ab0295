import PyProof.Rows.All
import Wide.All
import OpenK.AllK
import Wide.FinOn
import HandS.ForMost
import HandS.Deep
import HandS.IsInst
import HandS.Words
import HandS.Flow
import KE.KDictKeyed
import HandS.NoneIn
import HandS.DictComp
import HandS.Defaults
import HandS.HeadEnd
import KE.DataEq
import HandS.TupAny
import HandS.Wide
import HandS.HeadHook2
import KE.GoesEnum
import KE.GoesZip
import KE.SortCalls
import KE.LtSeq
import KE.SortData
import PyProof.ReprRoads
import PyProof.Rows.SortWalk
import KE.KDictDisplayH
import KE.KDictCopyH
import KE.KDictSum
import HandS.StrMore
import HandS.Style
import HandS.HeadHook3
import KE.KStateDown
import Lean
import HandS.More
import HandS.WordsExc
import HandS.Head0
import HandS.Head1
import HandS.Head2
import HandS.HeadHook1
import PySem.Challenge.RW_roadheld_k11_whole_controls_and_after
import PyProof.ReprBulk
set_option Elab.async false
set_option linter.all false
set_option autoImplicit false
set_option maxRecDepth 100000
set_option maxHeartbeats 2000000
/-! Data over the hand layer: values by what they hold, with named places for what changes. -/
namespace DL
open PySem PySem.Spec PyProof.Rows L2

inductive D where
  | non | bl (b : Bool) | int (i : Int) | str (s : Str) | ty (n : String) | tup (ds : List D) | lst (ds : List D) | rd (ds : List D) | own (k : Nat)

/-- what a dict holds: keys that are ints or texts; keys that are tuples -/
inductive Dic where
  | k (kvs : List (Key × D))
  | n (P : Program) (w : World) (kvs : List (D × D))
inductive Res where
  | lst (ds : List D)
  | gone
  | dic (δ : Dic)
abbrev Rs := List Res
/-! ### keys that are tuples -/
mutual
def D.nk : D → NestedKey
  | .bl b => .num (if b then 1 else 0)
  | .int i => .num i
  | .str x => .text x
  | .tup ds => .tup (D.nkAll ds)
  | .non | .ty _ | .lst _ | .rd _ | .own _ => .none
def D.nkAll : List D → List NestedKey
  | [] => []
  | d :: ds => D.nk d :: D.nkAll ds
end
mutual
/-- a key, n levels deep at most -/
def D.nkOk : Nat → D → Bool
  | _, .non => true
  | _, .bl _ => true
  | _, .int _ => true
  | _, .str _ => true
  | n + 1, .tup ds => D.nkOkAll n ds
  | 0, .tup _ => false
  | _, .ty _ => false
  | _, .lst _ => false
  | _, .rd _ => false
  | _, .own _ => false
def D.nkOkAll : Nat → List D → Bool
  | _, [] => true
  | n, d :: ds => D.nkOk n d && D.nkOkAll n ds
end
/-- at a: a dict with such keys, in the order of their coming -/
def RawN (P : Program) (w : World) (a : Addr) (xs : List (NestedKey × Addr × V)) (h : Heap) : Prop :=
  ∃ us : List (NestedKey × Addr × Value), Paired (fun (x : NestedKey × Addr × V) (u : NestedKey × Addr × Value) => x.1 = u.1 ∧ x.2.1 = u.2.1 ∧ L2.RelV x.2.2 u.2.2) xs us ∧ us.length ≤ sizeLine ∧ (a == sysModules) = false ∧
    ∃ o es ep, h.get? a = some o ∧ o.ExactDict ∧ o.data = .dict es ep ∧ es.toList = us.map (entryOfKey (nestedKind P w)) ∧ (us.map (·.1)).Nodup

/-- a tuple that stands in the heap, or in the text's written part -/
def TupAt (K : PySem.W.Frag) (H : Hp) (a : Addr) (xs : List V) : Prop :=
  H a = some (.tup xs) ∨ ∃ (o : Obj) (its : Array Value) (n : Nat), K.lookup a = some o ∧ o.cls = .type "tuple" ∧ o.data = .seq its n ∧ its.size ≤ sizeLine ∧ Vals xs its.toList
theorem TupAt.sqT {K : PySem.W.Frag} {H : Hp} {a : Addr} {xs : List V} (h : TupAt K H a xs) : SqT K H a xs := h.elim (fun h => .inl (.inl h)) .inr
theorem TupAt.mono {K : PySem.W.Frag} {H H' : Hp} {a : Addr} {xs : List V} (e : Same H H') (h : TupAt K H a xs) : TupAt K H' a xs := h.elim (fun h => .inl (e _ _ h)) .inr
mutual
inductive Rp (K : PySem.W.Frag) (H : Hp) (ι : List Addr) : V → D → Prop
  | non : Rp K H ι .non .non
  | bl (b : Bool) : Rp K H ι (.bl b) (.bl b)
  | int (i : Int) : Rp K H ι (.int i) (.int i)
  | str (x : Str) : Rp K H ι (.str x) (.str x)
  | ty (n : String) : Rp K H ι (.ty n) (.ty n)
  | lst {a : Addr} {xs : List V} {ds : List D} : H a = some (.lst xs) → RpAll K H ι xs ds → Rp K H ι (.ref a) (.lst ds)
  | rd {a : Addr} {xs : List V} {ds : List D} : SqL K H a xs → RpAll K H ι xs ds → Rp K H ι (.ref a) (.rd ds)
  | tup {a : Addr} {xs : List V} {ds : List D} : TupAt K H a xs → RpAll K H ι xs ds → Rp K H ι (.ref a) (.tup ds)
  | own {k : Nat} {a : Addr} : ι[k]? = some a → Rp K H ι (.ref a) (.own k)
inductive RpAll (K : PySem.W.Frag) (H : Hp) (ι : List Addr) : List V → List D → Prop
  | nil : RpAll K H ι [] []
  | cons {v : V} {vs : List V} {d : D} {ds : List D} : Rp K H ι v d → RpAll K H ι vs ds → RpAll K H ι (v :: vs) (d :: ds)
end

theorem Same.sqT {K : PySem.W.Frag} {H H' : Hp} {a : Addr} {xs : List V} (e : Same H H') (h : SqT K H a xs) : SqT K H' a xs := by
  rcases h with (h | ⟨o, h⟩) | h
  · exact .inl (.inl (e _ _ h))
  · exact .inl (.inr ⟨o, e _ _ h⟩)
  · exact .inr h

def Pre (ι ι' : List Addr) : Prop := ∀ (k : Nat) (a : Addr), ι[k]? = some a → ι'[k]? = some a
theorem Pre.refl (ι : List Addr) : Pre ι ι := fun _ _ h => h
theorem Pre.trans {a b c : List Addr} (h : Pre a b) (g : Pre b c) : Pre a c := fun k x e => g k x (h k x e)
theorem Pre.app (ι l : List Addr) : Pre ι (ι ++ l) := fun k a e => by
  have h : k < ι.length := (List.getElem?_eq_some_iff.mp e).1
  rw [List.getElem?_append_left h]
  exact e

section
variable {K : PySem.W.Frag} {H H' : Hp} {ι ι' : List Addr}
mutual
theorem Rp.mono (e : Same H H') (p : Pre ι ι') : ∀ {v : V} {d : D}, Rp K H ι v d → Rp K H' ι' v d
  | _, _, .non => .non
  | _, _, .bl b => .bl b
  | _, _, .int i => .int i
  | _, _, .str x => .str x
  | _, _, .ty n => .ty n
  | _, _, .lst h r => .lst (e _ _ h) (RpAll.mono e p r)
  | _, _, .rd h r => .rd (e.seq h) (RpAll.mono e p r)
  | _, _, .tup h r => .tup (h.mono e) (RpAll.mono e p r)
  | _, _, .own h => .own (p _ _ h)
theorem RpAll.mono (e : Same H H') (p : Pre ι ι') : ∀ {vs : List V} {ds : List D}, RpAll K H ι vs ds → RpAll K H' ι' vs ds
  | _, _, .nil => .nil
  | _, _, .cons r t => .cons (Rp.mono e p r) (RpAll.mono e p t)
end
theorem RpAll.length : ∀ {vs : List V} {ds : List D}, RpAll K H ι vs ds → vs.length = ds.length
  | _, _, .nil => rfl
  | _, _, .cons _ t => congrArg (· + 1) (RpAll.length t)
theorem RpAll.get : ∀ {vs : List V} {ds : List D} {i : Nat} {d : D}, RpAll K H ι vs ds → ds[i]? = some d → ∃ v, vs[i]? = some v ∧ Rp K H ι v d
  | _, _, _, _, .nil, e => by simp at e
  | _, _, 0, _, .cons r _, e => by simp at e; subst e; exact ⟨_, rfl, r⟩
  | _, _, i + 1, d, .cons _ t, e => by
    obtain ⟨u, h1, h2⟩ := RpAll.get (i := i) (d := d) t (by simpa using e)
    exact ⟨u, by simpa using h1, h2⟩
theorem RpAll.getV : ∀ {vs : List V} {ds : List D} {i : Nat} {v : V}, RpAll K H ι vs ds → vs[i]? = some v → ∃ d, ds[i]? = some d ∧ Rp K H ι v d
  | _, _, _, _, .nil, e => by simp at e
  | _, _, 0, _, .cons r _, e => by simp at e; subst e; exact ⟨_, rfl, r⟩
  | _, _, i + 1, v, .cons _ t, e => by
    obtain ⟨u, h1, h2⟩ := RpAll.getV (i := i) (v := v) t (by simpa using e)
    exact ⟨u, by simpa using h1, h2⟩
theorem RpAll.append : ∀ {xs ys : List V} {ds es : List D}, RpAll K H ι xs ds → RpAll K H ι ys es → RpAll K H ι (xs ++ ys) (ds ++ es)
  | _, _, _, _, .nil, s => s
  | _, _, _, _, .cons r t, s => .cons r (RpAll.append t s)
theorem RpAll.take : ∀ {xs : List V} {ds : List D} (n : Nat), RpAll K H ι xs ds → RpAll K H ι (xs.take n) (ds.take n)
  | _, _, 0, _ => .nil
  | _, _, _ + 1, .nil => .nil
  | _, _, n + 1, .cons r t => .cons r (RpAll.take n t)
theorem RpAll.drop : ∀ {xs : List V} {ds : List D} (n : Nat), RpAll K H ι xs ds → RpAll K H ι (xs.drop n) (ds.drop n)
  | _, _, 0, r => r
  | _, _, _ + 1, .nil => .nil
  | _, _, n + 1, .cons _ t => RpAll.drop n t
theorem RpAll.set {x : V} {d : D} (r : Rp K H ι x d) : ∀ {xs : List V} {ds : List D} (i : Nat), RpAll K H ι xs ds → RpAll K H ι (xs.set i x) (ds.set i d)
  | _, _, _, .nil => .nil
  | _, _, 0, .cons _ t => .cons r t
  | _, _, i + 1, .cons q t => .cons q (RpAll.set r i t)
theorem RpAll.erase : ∀ {xs : List V} {ds : List D} (i : Nat), RpAll K H ι xs ds → RpAll K H ι (xs.eraseIdx i) (ds.eraseIdx i)
  | _, _, _, .nil => .nil
  | _, _, 0, .cons _ t => t
  | _, _, i + 1, .cons q t => .cons q (RpAll.erase i t)
theorem RpAll.reverse : ∀ {xs : List V} {ds : List D}, RpAll K H ι xs ds → RpAll K H ι xs.reverse ds.reverse
  | _, _, .nil => .nil
  | _, _, .cons q t => by
    rw [List.reverse_cons, List.reverse_cons]
    exact (RpAll.reverse t).append (.cons q .nil)
theorem RpAll.mem {xs : List V} {ds : List D} (r : RpAll K H ι xs ds) {d : D} (h : d ∈ ds) : ∃ v, v ∈ xs ∧ Rp K H ι v d := by
  obtain ⟨i, hi, e⟩ := List.mem_iff_getElem.mp h
  obtain ⟨v, h1, h2⟩ := r.get (i := i) (d := d) (by rw [List.getElem?_eq_getElem hi, e])
  exact ⟨v, List.mem_of_getElem? h1, h2⟩
end

/-! ### dicts -/
def DicIs (K : PySem.W.Frag) (H : Hp) (ι : List Addr) (a : Addr) (o : HO) : Dic → Prop
  | .k kvs => ∃ xs : List (Key × V), o = .dK xs ∧ xs.map (·.1) = kvs.map (·.1) ∧ RpAll K H ι (xs.map (·.2)) (kvs.map (·.2))
  | .n P w kvs => ∃ xs : List (NestedKey × Addr × V), o = .ext (RawN P w a xs) ∧ xs.map (·.1) = kvs.map (fun p => p.1.nk) ∧ RpAll K H ι (xs.map fun x => V.ref x.2.1) (kvs.map (·.1)) ∧ RpAll K H ι (xs.map (·.2.2)) (kvs.map (·.2))
theorem DicIs.mono {K : PySem.W.Frag} {H H' : Hp} {ι ι' : List Addr} {a : Addr} {o : HO} {δ : Dic} (h : DicIs K H ι a o δ) (e : Same H H') (p : Pre ι ι') : DicIs K H' ι' a o δ := by
  cases δ with
  | k kvs =>
    obtain ⟨xs, h1, h2, h3⟩ := h
    exact ⟨xs, h1, h2, h3.mono e p⟩
  | n P w kvs =>
    obtain ⟨xs, h1, h2, h3, h4⟩ := h
    exact ⟨xs, h1, h2, h3.mono e p, h4.mono e p⟩
/-! ### the state -/
def ResAt (K : PySem.W.Frag) (H0 : Hp) (ι : List Addr) (H : Hp) (a : Addr) : Res → Prop
  | .lst ds => H0 a = none ∧ ∃ xs, H a = some (.lst xs) ∧ RpAll K H0 ι xs ds
  | .gone => True
  | .dic δ => H0 a = none ∧ ∃ o, H a = some o ∧ DicIs K H0 ι a o δ
theorem ResAt.to {K : PySem.W.Frag} {H0 H0' H H' : Hp} {ι ι' : List Addr} {a : Addr} {r : Res} (h : ResAt K H0 ι H a r) (f0 : H0 a = none → H0' a = none) (fh : ∀ o, H a = some o → H' a = some o) (e : Same H0 H0') (p : Pre ι ι') : ResAt K H0' ι' H' a r := by
  cases r with
  | gone => trivial
  | lst ds =>
    obtain ⟨q1, xs, q2, q3⟩ := h
    exact ⟨f0 q1, xs, fh _ q2, q3.mono e p⟩
  | dic δ =>
    obtain ⟨q1, o, q2, q3⟩ := h
    exact ⟨f0 q1, o, fh _ q2, q3.mono e p⟩
structure SR (K : PySem.W.Frag) (H0 : Hp) (ι : List Addr) (R : Rs) (H : Hp) : Prop where
  ex : Same H0 H
  len : ι.length = R.length
  nd : ι.Nodup
  live : ∀ a ∈ ι, H a ≠ none
  at_ : ∀ (k : Nat) (a : Addr) (r : Res), ι[k]? = some a → R[k]? = some r → ResAt K H0 ι H a r
/-- slots by what they hold -/
def EnvR (K : PySem.W.Frag) (H0 : Hp) (ι : List Addr) (σ : L2.St) (ρ : List (Option D)) : Prop :=
  σ.length = ρ.length ∧ ∀ (i : Nat) (d : D), ρ[i]? = some (some d) → ∃ v, σ[i]? = some (some v) ∧ Rp K H0 ι v d
/-- from one state to a later one: what was known stands, what others know stands, but the places at ι -/
structure Step (H0 : Hp) (ι : List Addr) (H : Hp) (H0' : Hp) (ι' : List Addr) (H' : Hp) : Prop where
  ex : Same H0 H0'
  pre : Pre ι ι'
  keep : ∀ a o, H a = some o → a ∉ ι → H' a = some o
  new : ∀ a ∈ ι', a ∈ ι ∨ H a = none
  frz : ∀ a o, H0' a = some o → H0 a = some o ∨ H a = none ∨ a ∈ ι
theorem Step.refl (H0 : Hp) (ι : List Addr) (H : Hp) : Step H0 ι H H0 ι H := ⟨Same.refl _, Pre.refl _, fun _ _ h _ => h, fun _ h => .inl h, fun _ _ h => .inl h⟩
theorem Step.trans {H0 H01 H02 H H1 H2 : Hp} {ι ι1 ι2 : List Addr} (a : Step H0 ι H H01 ι1 H1) (b : Step H01 ι1 H1 H02 ι2 H2) : Step H0 ι H H02 ι2 H2 where
  ex := a.ex.trans b.ex
  pre := a.pre.trans b.pre
  keep := fun x o h hn => b.keep x o (a.keep x o h hn) fun hm => by
    rcases a.new x hm with z | z
    · exact hn z
    · rw [z] at h; cases h
  new := fun x hm => by
    rcases b.new x hm with z | z
    · exact a.new x z
    · by_cases hx : x ∈ ι
      · exact .inl hx
      · refine .inr ?_
        cases q : H x with
        | none => rfl
        | some o =>
          have := a.keep x o q hx
          rw [z] at this
          cases this
  frz := fun x o h => by
    rcases b.frz x o h with z | z | z
    · exact a.frz x o z
    · by_cases hx : x ∈ ι
      · exact .inr (.inr hx)
      · refine .inr (.inl ?_)
        cases q : H x with
        | none => rfl
        | some o =>
          have := a.keep x o q hx
          rw [z] at this
          cases this
    · rcases a.new x z with y | y
      · exact .inr (.inr y)
      · exact .inr (.inl y)
section
variable {K : PySem.W.Frag} {H0 H0' H H' : Hp} {ι ι' : List Addr} {R R' : Rs} {σ : L2.St} {ρ : List (Option D)} {v : V} {d : D} {vs : List V} {ds : List D}
theorem Rp.step (r : Rp K H0 ι v d) (s : Step H0 ι H H0' ι' H') : Rp K H0' ι' v d := r.mono s.ex s.pre
theorem RpAll.step (r : RpAll K H0 ι vs ds) (s : Step H0 ι H H0' ι' H') : RpAll K H0' ι' vs ds := r.mono s.ex s.pre
theorem EnvR.step (r : EnvR K H0 ι σ ρ) (s : Step H0 ι H H0' ι' H') : EnvR K H0' ι' σ ρ := ⟨r.1, fun i d e => by
  obtain ⟨v, h1, h2⟩ := r.2 i d e
  exact ⟨v, h1, h2.step s⟩⟩
theorem EnvR.set (r : EnvR K H0 ι σ ρ) (h : Rp K H0 ι v d) (i : Nat) : EnvR K H0 ι (σ.set i (some v)) (ρ.set i (some d)) := by
  refine ⟨by rw [List.length_set, List.length_set]; exact r.1, fun j e hj => ?_⟩
  by_cases q : i = j
  · subst q
    by_cases hi : i < ρ.length
    · rw [List.getElem?_set_self hi] at hj
      cases hj
      exact ⟨v, by rw [List.getElem?_set_self (by rw [r.1]; exact hi)], h⟩
    · rw [List.getElem?_eq_none (by rw [List.length_set]; omega)] at hj
      cases hj
  · rw [List.getElem?_set_ne q] at hj
    obtain ⟨w, h1, h2⟩ := r.2 j e hj
    exact ⟨w, by rw [List.getElem?_set_ne q]; exact h1, h2⟩
theorem EnvR.forget (r : EnvR K H0 ι σ ρ) (i : Nat) : EnvR K H0 ι σ (ρ.set i none) := by
  refine ⟨by rw [List.length_set]; exact r.1, fun j e hj => ?_⟩
  by_cases q : i = j
  · subst q
    by_cases hi : i < ρ.length
    · rw [List.getElem?_set_self hi] at hj
      cases hj
    · rw [List.getElem?_eq_none (by rw [List.length_set]; omega)] at hj
      cases hj
  · rw [List.getElem?_set_ne q] at hj
    exact r.2 j e hj
/-- the frozen part stands in the whole -/
theorem Rp.up (r : Rp K H0 ι v d) (s : SR K H0 ι R H) : Rp K H ι v d := r.mono s.ex (Pre.refl _)
theorem RpAll.up (r : RpAll K H0 ι vs ds) (s : SR K H0 ι R H) : RpAll K H ι vs ds := r.mono s.ex (Pre.refl _)
theorem SR.fresh (s : SR K H0 ι R H) {p : Addr} (h : H p = none) : H0 p = none ∧ p ∉ ι := ⟨Same.free s.ex h, fun m => s.live p m h⟩
theorem same_new {H : Hp} {p : Addr} {o : HO} (h : H p = none) : Same H (upd H p o) := fun b x e => by
  rw [upd_ne (ne_of_none e h)]
  exact e
theorem same_both {H0 H : Hp} (e : Same H0 H) (p : Addr) (o : HO) : Same (upd H0 p o) (upd H p o) := fun b x h => by
  by_cases q : b = p
  · subst q; rw [upd_same] at h ⊢; exact h
  · rw [upd_ne q] at h ⊢; exact e b x h
/-- something new, known from now on -/
theorem SR.laid (s : SR K H0 ι R H) {p : Addr} {o : HO} (h : H p = none) : SR K (upd H0 p o) ι R (upd H p o) ∧ Step H0 ι H (upd H0 p o) ι (upd H p o) := by
  obtain ⟨f0, fi⟩ := s.fresh h
  have ex0 : Same H0 (upd H0 p o) := same_new f0
  refine ⟨⟨same_both s.ex p o, s.len, s.nd, fun a m => ?_, fun k a r e1 e2 => ?_⟩, ⟨ex0, Pre.refl _, fun a x e _ => same_new h a x e, fun _ m => .inl m, fun a x e => by
    by_cases q : a = p
    · subst q; exact .inr (.inl h)
    · rw [upd_ne q] at e; exact .inl e⟩⟩
  · have : a ≠ p := fun z => fi (z ▸ m)
    rw [upd_ne this]
    exact s.live a m
  · have hne : a ≠ p := fun z => fi (z ▸ List.mem_of_getElem? e1)
    exact (s.at_ k a r e1 e2).to (fun z => by rw [upd_ne hne]; exact z) (fun o z => by rw [upd_ne hne]; exact z) ex0 (Pre.refl _)
/-- something new that nobody asks for -/
theorem SR.litter (s : SR K H0 ι R H) {p : Addr} {o : HO} (h : H p = none) : SR K H0 ι R (upd H p o) ∧ Step H0 ι H H0 ι (upd H p o) := by
  obtain ⟨f0, fi⟩ := s.fresh h
  refine ⟨⟨s.ex.trans (same_new h), s.len, s.nd, fun a m => ?_, fun k a r e1 e2 => ?_⟩, ⟨Same.refl _, Pre.refl _, fun a x e _ => same_new h a x e, fun _ m => .inl m, fun _ _ e => .inl e⟩⟩
  · have : a ≠ p := fun z => fi (z ▸ m)
    rw [upd_ne this]
    exact s.live a m
  · have hne : a ≠ p := fun z => fi (z ▸ List.mem_of_getElem? e1)
    exact (s.at_ k a r e1 e2).to id (fun o z => by rw [upd_ne hne]; exact z) (Same.refl _) (Pre.refl _)
/-- a new place -/
theorem SR.placeG (s : SR K H0 ι R H) {p : Addr} {o : HO} {r : Res} (h : H p = none) (hr : H0 p = none → ∀ ι', Pre ι ι' → ResAt K H0 ι' (upd H p o) p r) :
    SR K H0 (ι ++ [p]) (R ++ [r]) (upd H p o) ∧ Step H0 ι H H0 (ι ++ [p]) (upd H p o) ∧ (ι ++ [p])[R.length]? = some p := by
  obtain ⟨f0, fi⟩ := s.fresh h
  have pr : Pre ι (ι ++ [p]) := Pre.app _ _
  have last : (ι ++ [p])[R.length]? = some p := by rw [← s.len, List.getElem?_append_right (Nat.le_refl _)]; simp
  refine ⟨⟨s.ex.trans (same_new h), by simp [s.len], ?_, fun a m => ?_, fun k a q e1 e2 => ?_⟩, ⟨Same.refl _, pr, fun a x e _ => same_new h a x e, fun a m => ?_, fun _ _ e => .inl e⟩, last⟩
  · rw [List.nodup_append]
    exact ⟨s.nd, by simp, fun a ha b hb => by simp only [List.mem_singleton] at hb; subst hb; exact fun z => fi (z ▸ ha)⟩
  · rcases List.mem_append.mp m with m | m
    · have : a ≠ p := fun z => fi (z ▸ m)
      rw [upd_ne this]
      exact s.live a m
    · simp only [List.mem_singleton] at m
      subst m
      rw [upd_same]
      exact fun z => nomatch z
  · by_cases hk : k < ι.length
    · rw [List.getElem?_append_left hk] at e1
      rw [List.getElem?_append_left (by rw [← s.len]; exact hk)] at e2
      have hne : a ≠ p := fun z => fi (z ▸ List.mem_of_getElem? e1)
      exact (s.at_ k a q e1 e2).to id (fun o z => by rw [upd_ne hne]; exact z) (Same.refl _) pr
    · have hk2 : k = ι.length := by
        have := (List.getElem?_eq_some_iff.mp e1).1
        simp at this
        omega
      subst hk2
      rw [List.getElem?_append_right (Nat.le_refl _)] at e1
      rw [List.getElem?_append_right (by rw [s.len]; exact Nat.le_refl _)] at e2
      simp only [Nat.sub_self, List.getElem?_cons_zero, Option.some.injEq] at e1
      rw [s.len, Nat.sub_self] at e2
      simp only [List.getElem?_cons_zero, Option.some.injEq] at e2
      subst e1 e2
      exact hr f0 _ pr
  · rcases List.mem_append.mp m with m | m
    · exact .inl m
    · simp only [List.mem_singleton] at m
      subst m
      exact .inr h
theorem SR.place (s : SR K H0 ι R H) {p : Addr} {xs : List V} {ds : List D} (h : H p = none) (r : RpAll K H0 ι xs ds) :
    SR K H0 (ι ++ [p]) (R ++ [.lst ds]) (upd H p (.lst xs)) ∧ Step H0 ι H H0 (ι ++ [p]) (upd H p (.lst xs)) ∧ (ι ++ [p])[R.length]? = some p :=
  s.placeG h fun f0 _ pr => ⟨f0, xs, upd_same, r.mono (Same.refl _) pr⟩
/-- a dict in a new place -/
theorem SR.placeD (s : SR K H0 ι R H) {p : Addr} {o : HO} {δ : Dic} (h : H p = none) (r : DicIs K H0 ι p o δ) :
    SR K H0 (ι ++ [p]) (R ++ [.dic δ]) (upd H p o) ∧ Step H0 ι H H0 (ι ++ [p]) (upd H p o) ∧ (ι ++ [p])[R.length]? = some p :=
  s.placeG h fun f0 _ pr => ⟨f0, o, upd_same, r.mono (Same.refl _) pr⟩
theorem nodup_at {l : List Addr} (h : l.Nodup) {i j : Nat} {a : Addr} (hi : l[i]? = some a) (hj : l[j]? = some a) : i = j := by
  obtain ⟨h1, e1⟩ := List.getElem?_eq_some_iff.mp hi
  obtain ⟨h2, e2⟩ := List.getElem?_eq_some_iff.mp hj
  exact (List.getElem_inj h).mp (e1.trans e2.symm)
/-- the place k holds something else from now on -/
theorem SR.writeG (s : SR K H0 ι R H) {k : Nat} {a : Addr} {r0 r : Res} {o : HO} (hk : ι[k]? = some a) (hr : R[k]? = some r0) (f0 : H0 a = none) (hn : ResAt K H0 ι (upd H a o) a r) :
    SR K H0 ι (R.set k r) (upd H a o) ∧ Step H0 ι H H0 ι (upd H a o) := by
  refine ⟨⟨fun b x e => ?_, by rw [List.length_set]; exact s.len, s.nd, fun b m => ?_, fun j b q e1 e2 => ?_⟩, ⟨Same.refl _, Pre.refl _, fun b x e hn' => ?_, fun _ m => .inl m, fun _ _ e => .inl e⟩⟩
  · have : b ≠ a := ne_of_none e f0
    rw [upd_ne this]
    exact s.ex b x e
  · by_cases q : b = a
    · subst q; rw [upd_same]; exact fun z => nomatch z
    · rw [upd_ne q]; exact s.live b m
  · by_cases q' : k = j
    · subst q'
      rw [hk] at e1
      cases e1
      rw [List.getElem?_set_self (List.getElem?_eq_some_iff.mp hr).1] at e2
      cases e2
      exact hn
    · rw [List.getElem?_set_ne q'] at e2
      have hne : b ≠ a := fun z => q' (nodup_at s.nd hk (z ▸ e1))
      exact (s.at_ j b q e1 e2).to id (fun o z => by rw [upd_ne hne]; exact z) (Same.refl _) (Pre.refl _)
  · have : b ≠ a := fun z => hn' (z ▸ List.mem_of_getElem? hk)
    rw [upd_ne this]
    exact e
theorem SR.write (s : SR K H0 ι R H) {k : Nat} {a : Addr} {ds0 : List D} {ys : List V} {es : List D} (hk : ι[k]? = some a) (hr : R[k]? = some (.lst ds0)) (r : RpAll K H0 ι ys es) :
    SR K H0 ι (R.set k (.lst es)) (upd H a (.lst ys)) ∧ Step H0 ι H H0 ι (upd H a (.lst ys)) := by
  obtain ⟨f0, _, _, _⟩ := s.at_ k a _ hk hr
  exact s.writeG hk hr f0 ⟨f0, ys, upd_same, r⟩
/-- a dict at the place k holds something else -/
theorem SR.writeD (s : SR K H0 ι R H) {k : Nat} {a : Addr} {δ0 δ : Dic} {o : HO} (hk : ι[k]? = some a) (hr : R[k]? = some (.dic δ0)) (r : DicIs K H0 ι a o δ) :
    SR K H0 ι (R.set k (.dic δ)) (upd H a o) ∧ Step H0 ι H H0 ι (upd H a o) := by
  obtain ⟨f0, _, _, _⟩ := s.at_ k a _ hk hr
  exact s.writeG hk hr f0 ⟨f0, o, upd_same, r⟩
/-- the place k is given up: what stands there is known from now on, for good -/
theorem SR.freeze (s : SR K H0 ι R H) {k : Nat} {a : Addr} {ds : List D} (hk : ι[k]? = some a) (hr : R[k]? = some (.lst ds)) :
    ∃ H0', SR K H0' ι (R.set k .gone) H ∧ Step H0 ι H H0' ι H ∧ Rp K H0' ι (.ref a) (.lst ds) := by
  obtain ⟨f0, xs, hx, rx⟩ := s.at_ k a _ hk hr
  have ex0 : Same H0 (upd H0 a (.lst xs)) := same_new f0
  refine ⟨upd H0 a (.lst xs), ⟨fun b x e => ?_, by rw [List.length_set]; exact s.len, s.nd, s.live, fun j b q e1 e2 => ?_⟩, ⟨ex0, Pre.refl _, fun _ _ e _ => e, fun _ m => .inl m, fun b o e => by
    by_cases q : b = a
    · subst q; exact .inr (.inr (List.mem_of_getElem? hk))
    · rw [upd_ne q] at e; exact .inl e⟩, .lst upd_same (rx.mono ex0 (Pre.refl _))⟩
  · by_cases q : b = a
    · subst q; rw [upd_same] at e; rw [hx]; exact e
    · rw [upd_ne q] at e; exact s.ex b x e
  · by_cases q' : k = j
    · subst q'
      rw [List.getElem?_set_self (List.getElem?_eq_some_iff.mp hr).1] at e2
      cases e2
      trivial
    · rw [List.getElem?_set_ne q'] at e2
      have hne : b ≠ a := fun z => q' (nodup_at s.nd hk (z ▸ e1))
      exact (s.at_ j b q e1 e2).to (fun z => by rw [upd_ne hne]; exact z) (fun _ z => z) ex0 (Pre.refl _)
/-- something that is neither known nor a place may change -/
theorem SR.off (s : SR K H0 ι R H) {p : Addr} {o : HO} (h0 : H0 p = none) (hi : p ∉ ι) : SR K H0 ι R (upd H p o) := by
  refine ⟨fun b x e => ?_, s.len, s.nd, fun a m => ?_, fun k a r e1 e2 => ?_⟩
  · rw [upd_ne (ne_of_none e h0)]
    exact s.ex b x e
  · have : a ≠ p := fun z => hi (z ▸ m)
    rw [upd_ne this]
    exact s.live a m
  · have hne : a ≠ p := fun z => hi (z ▸ List.mem_of_getElem? e1)
    exact (s.at_ k a r e1 e2).to id (fun o z => by rw [upd_ne hne]; exact z) (Same.refl _) (Pre.refl _)
/-- .. and may be known from now on -/
theorem SR.adopt (s : SR K H0 ι R H) {p : Addr} {o : HO} (h0 : H0 p = none) (hi : p ∉ ι) (hp : H p = some o) : SR K (upd H0 p o) ι R H := by
  have ex0 : Same H0 (upd H0 p o) := same_new h0
  refine ⟨fun b x e => ?_, s.len, s.nd, s.live, fun k a r e1 e2 => ?_⟩
  · by_cases q : b = p
    · subst q; rw [upd_same] at e; rw [hp]; exact e
    · rw [upd_ne q] at e; exact s.ex b x e
  · have hne : a ≠ p := fun z => hi (z ▸ List.mem_of_getElem? e1)
    exact (s.at_ k a r e1 e2).to (fun z => by rw [upd_ne hne]; exact z) (fun _ z => z) ex0 (Pre.refl _)
end

/-! ### places that stand for good: what is told speaks of the first n alone -/
mutual
def D.lt (n : Nat) : D → Bool
  | .own k => decide (k < n)
  | .tup ds => D.ltAll n ds
  | .lst ds => D.ltAll n ds
  | .rd ds => D.ltAll n ds
  | .non => true
  | .bl _ => true
  | .int _ => true
  | .str _ => true
  | .ty _ => true
def D.ltAll (n : Nat) : List D → Bool
  | [] => true
  | d :: ds => D.lt n d && D.ltAll n ds
end
def Dic.lt (n : Nat) : Dic → Bool
  | .k kvs => D.ltAll n (kvs.map (·.2))
  | .n _ _ kvs => D.ltAll n (kvs.map (·.1)) && D.ltAll n (kvs.map (·.2))
def Res.lt (n : Nat) : Res → Bool
  | .lst ds => D.ltAll n ds
  | .gone => true
  | .dic δ => δ.lt n
def RsLt (n : Nat) (R : Rs) : Prop := ∀ r ∈ R, Res.lt n r = true
section
variable {K : PySem.W.Frag} {H0 H0' H H' : Hp} {ι ι' : List Addr} {R R' : Rs}
mutual
theorem Rp.lt : ∀ {v : V} {d : D}, Rp K H ι v d → D.lt ι.length d = true
  | _, _, .non => rfl
  | _, _, .bl _ => rfl
  | _, _, .int _ => rfl
  | _, _, .str _ => rfl
  | _, _, .ty _ => rfl
  | _, _, .lst _ r => RpAll.lt r
  | _, _, .rd _ r => RpAll.lt r
  | _, _, .tup _ r => RpAll.lt r
  | _, _, .own h => decide_eq_true (List.getElem?_eq_some_iff.mp h).1
theorem RpAll.lt : ∀ {vs : List V} {ds : List D}, RpAll K H ι vs ds → D.ltAll ι.length ds = true
  | _, _, .nil => rfl
  | _, _, .cons r t => by
    show (D.lt ι.length _ && D.ltAll ι.length _) = true
    rw [Rp.lt r, RpAll.lt t]
    rfl
end
mutual
theorem Rp.cut (p : Pre ι ι') : ∀ {v : V} {d : D}, Rp K H ι' v d → D.lt ι.length d = true → Rp K H ι v d
  | _, _, .non, _ => .non
  | _, _, .bl b, _ => .bl b
  | _, _, .int i, _ => .int i
  | _, _, .str x, _ => .str x
  | _, _, .ty n, _ => .ty n
  | _, _, .lst h r, l => .lst h (RpAll.cut p r l)
  | _, _, .rd h r, l => .rd h (RpAll.cut p r l)
  | _, _, .tup h r, l => .tup h (RpAll.cut p r l)
  | _, _, .own (k := k) (a := a) h, l => by
    have hk : k < ι.length := of_decide_eq_true l
    have e := p k _ (List.getElem?_eq_getElem hk)
    rw [h] at e
    cases e
    exact .own (List.getElem?_eq_getElem hk)
theorem RpAll.cut (p : Pre ι ι') : ∀ {vs : List V} {ds : List D}, RpAll K H ι' vs ds → D.ltAll ι.length ds = true → RpAll K H ι vs ds
  | _, _, .nil, _ => .nil
  | _, _, .cons r t, l => by
    obtain ⟨l1, l2⟩ := Bool.and_eq_true_iff.mp (show (D.lt ι.length _ && D.ltAll ι.length _) = true from l)
    exact .cons (Rp.cut p r l1) (RpAll.cut p t l2)
end
theorem DicIs.lt {a : Addr} {o : HO} {δ : Dic} (h : DicIs K H ι a o δ) : δ.lt ι.length = true := by
  cases δ with
  | k kvs =>
    obtain ⟨xs, h1, h2, h3⟩ := h
    exact h3.lt
  | n P w kvs =>
    obtain ⟨xs, h1, h2, h3, h4⟩ := h
    show (D.ltAll _ _ && D.ltAll _ _) = true
    rw [h3.lt, h4.lt]
    rfl
theorem DicIs.cut (p : Pre ι ι') {a : Addr} {o : HO} {δ : Dic} (h : DicIs K H ι' a o δ) (l : δ.lt ι.length = true) : DicIs K H ι a o δ := by
  cases δ with
  | k kvs =>
    obtain ⟨xs, h1, h2, h3⟩ := h
    exact ⟨xs, h1, h2, h3.cut p l⟩
  | n P w kvs =>
    obtain ⟨xs, h1, h2, h3, h4⟩ := h
    obtain ⟨l1, l2⟩ := Bool.and_eq_true_iff.mp (show (D.ltAll _ _ && D.ltAll _ _) = true from l)
    exact ⟨xs, h1, h2, h3.cut p l1, h4.cut p l2⟩
theorem SR.lt (s : SR K H0 ι R H) : RsLt R.length R := fun r hr => by
  obtain ⟨k, hk, e⟩ := List.mem_iff_getElem.mp hr
  have hk2 : k < ι.length := by rw [s.len]; exact hk
  have q := s.at_ k ι[k] r (List.getElem?_eq_getElem hk2) (by rw [List.getElem?_eq_getElem hk, e])
  cases r with
  | gone => rfl
  | lst ds =>
    obtain ⟨_, xs, _, q3⟩ := q
    have := q3.lt
    rw [s.len] at this
    exact this
  | dic δ =>
    obtain ⟨_, xs, _, q3⟩ := q
    have := q3.lt
    rw [s.len] at this
    exact this
/-- the places behind the first ones are let go -/
theorem SR.drop (s : SR K H0 ι R H) (s' : SR K H0' ι' R' H') (p : Pre ι ι') {R2 T : Rs} (e : R' = R2 ++ T) (hl : R2.length = R.length) (lt : RsLt R.length R2) : SR K H0' ι R2 H' := by
  subst e
  refine ⟨s'.ex, by rw [hl]; exact s.len, s.nd, fun a m => ?_, fun k a r e1 e2 => ?_⟩
  · obtain ⟨k, hk, e⟩ := List.mem_iff_getElem.mp m
    exact s'.live a (List.mem_of_getElem? (p k a (by rw [List.getElem?_eq_getElem hk, e])))
  · have hk : k < R2.length := (List.getElem?_eq_some_iff.mp e2).1
    have q := s'.at_ k a r (p k a e1) (by rw [List.getElem?_append_left hk]; exact e2)
    cases r with
    | gone => trivial
    | lst ds =>
      obtain ⟨q1, xs, q2, q3⟩ := q
      have l := lt _ (List.mem_of_getElem? e2)
      rw [← s.len] at l
      exact ⟨q1, xs, q2, q3.cut p l⟩
    | dic δ =>
      obtain ⟨q1, xs, q2, q3⟩ := q
      have l := lt _ (List.mem_of_getElem? e2)
      rw [← s.len] at l
      exact ⟨q1, xs, q2, q3.cut p l⟩
end
end DL
namespace DL
open PySem PySem.Spec PyProof.Rows L2

/-! ### what is evaluated, by any contexts of a family -/
section
variable {I : Type} (F : I → Cx)
def UE (e : Expr) : TE := fun σ H Q => ∃ t : TE, (∀ i, PE (F i) e t) ∧ t σ H Q
def UT (e : Expr) : TT := fun σ H Q => ∃ t : TT, (∀ i, PT (F i) e t) ∧ t σ H Q
def UW (e : Expr) : TT := fun σ H Q => ∃ t : TT, (∀ i, PW (F i) e t) ∧ t σ H Q
def UA (es : List Expr) : TA := fun σ H Q => ∃ t : TA, (∀ i, PA (F i) es t) ∧ t σ H Q
def US (st : Stmt) : TS := fun D σ H => ∃ t : TS, (∀ i, PS (F i) st t) ∧ t D σ H
def USs (sts : List Stmt) : TS := fun D σ H => ∃ t : TS, (∀ i, PSs (F i) sts t) ∧ t D σ H
def UG (tg : Expr) : TG := fun v σ H Q => ∃ t : TG, (∀ i, PG (F i) tg t) ∧ t v σ H Q
end
section
variable {I : Type} {F : I → Cx}
theorem pe_u {e : Expr} (i : I) : PE (F i) e (UE F e) := ⟨fun pins s σ H Q I h => by
  obtain ⟨t, ht, q⟩ := h
  exact (ht i).run pins s σ H Q I q⟩
theorem pt_u {e : Expr} (i : I) : PT (F i) e (UT F e) := ⟨fun pins s σ H Q I h => by
  obtain ⟨t, ht, q⟩ := h
  exact (ht i).run pins s σ H Q I q⟩
theorem pw_u {e : Expr} (i : I) : PW (F i) e (UW F e) := ⟨fun wh pins s σ H Q I h => by
  obtain ⟨t, ht, q⟩ := h
  exact (ht i).run wh pins s σ H Q I q⟩
theorem pa_u {es : List Expr} (i : I) : PA (F i) es (UA F es) := ⟨fun pos pins s σ H Q I h => by
  obtain ⟨t, ht, q⟩ := h
  exact (ht i).run pos pins s σ H Q I q⟩
theorem ps_u {st : Stmt} (i : I) : PS (F i) st (US F st) := ⟨fun pins s σ H D I h => by
  obtain ⟨t, ht, q⟩ := h
  exact (ht i).run pins s σ H D I q⟩
theorem pss_u {sts : List Stmt} (i : I) : PSs (F i) sts (USs F sts) := ⟨fun pins s σ H D I h => by
  obtain ⟨t, ht, q⟩ := h
  exact (ht i).run pins s σ H D I q⟩
theorem pg_u {tg : Expr} (i : I) : PG (F i) tg (UG F tg) := ⟨fun pins s σ H v u Q I r h => by
  obtain ⟨t, ht, q⟩ := h
  exact (ht i).run pins s σ H v u Q I r q⟩
end

/-- what all contexts of a family share -/
structure Fam {I : Type} (F : I → Cx) (K : PySem.W.Frag) (mg : Str → Option Value) (N : List Str) : Prop where
  nd : N.Nodup
  pass : ∀ i, PassesOwn (model (F i).prog (F i).w) (F i).A (F i).env (F i).xe
  K : ∀ i, (F i).K = K
  mg : ∀ i, (F i).mg = mg
  N : ∀ i, (F i).N = N
  calm : ∀ i, (F i).calm = true
  un : ∀ i, (F i).A.units + 200 < cLine

/-! ### judgements over data -/
section
variable {I : Type} (F : I → Cx) (K : PySem.W.Frag)
abbrev Φ1 := D → Rs → Prop
abbrev Env := List (Option D)
/-- the end of an evaluation -/
def Fin (H0 : Hp) (ι : List Addr) (H : Hp) (Φ : Φ1) (Q : VK) : Prop := ∀ d R' H0' ι' v H', Φ d R' → Step H0 ι H H0' ι' H' → SR K H0' ι' R' H' → Rp K H0' ι' v d → Q v H'
def FinT (H0 : Hp) (ι : List Addr) (H : Hp) (Φ : Bool → Rs → Prop) (Q : Bool → Hp → Prop) : Prop := ∀ b R' H0' ι' H', Φ b R' → Step H0 ι H H0' ι' H' → SR K H0' ι' R' H' → Q b H'
def FinA (H0 : Hp) (ι : List Addr) (H : Hp) (Φ : List D → Rs → Prop) (Q : List V → Hp → Prop) : Prop := ∀ ds R' H0' ι' vs H', Φ ds R' → Step H0 ι H H0' ι' H' → SR K H0' ι' R' H' → RpAll K H0' ι' vs ds → Q vs H'
def DE (e : Expr) (ρ : Env) (R : Rs) (Φ : Φ1) : Prop := ∀ (H0 : Hp) (ι : List Addr) (σ : L2.St) (H : Hp) (Q : VK), SR K H0 ι R H → EnvR K H0 ι σ ρ → Fin K H0 ι H Φ Q → UE F e σ H Q
def DT (e : Expr) (ρ : Env) (R : Rs) (Φ : Bool → Rs → Prop) : Prop := ∀ (H0 : Hp) (ι : List Addr) (σ : L2.St) (H : Hp) (Q : Bool → Hp → Prop), SR K H0 ι R H → EnvR K H0 ι σ ρ → FinT K H0 ι H Φ Q → UT F e σ H Q
def DW (e : Expr) (ρ : Env) (R : Rs) (Φ : Bool → Rs → Prop) : Prop := ∀ (H0 : Hp) (ι : List Addr) (σ : L2.St) (H : Hp) (Q : Bool → Hp → Prop), SR K H0 ι R H → EnvR K H0 ι σ ρ → FinT K H0 ι H Φ Q → UW F e σ H Q
def DA (es : List Expr) (ρ : Env) (R : Rs) (Φ : List D → Rs → Prop) : Prop := ∀ (H0 : Hp) (ι : List Addr) (σ : L2.St) (H : Hp) (Q : List V → Hp → Prop), SR K H0 ι R H → EnvR K H0 ι σ ρ → FinA K H0 ι H Φ Q → UA F es σ H Q
/-- an operation on values, over data -/
def OD (r : R2) (x y : D) (R : Rs) (Φ : Φ1) : Prop := ∀ (H0 : Hp) (ι : List Addr) (H : Hp) (Q : VK) (v w : V), SR K H0 ι R H → Rp K H0 ι v x → Rp K H0 ι w y → Fin K H0 ι H Φ Q → r v w H Q
def CD (r : List V → Hp → VK → Prop) (ds : List D) (R : Rs) (Φ : Φ1) : Prop := ∀ (H0 : Hp) (ι : List Addr) (H : Hp) (Q : VK) (vs : List V), SR K H0 ι R H → RpAll K H0 ι vs ds → Fin K H0 ι H Φ Q → r vs H Q
def MD (r : V → List V → Hp → VK → Prop) (x : D) (ds : List D) (R : Rs) (Φ : Φ1) : Prop := ∀ (H0 : Hp) (ι : List Addr) (H : Hp) (Q : VK) (v : V) (vs : List V), SR K H0 ι R H → Rp K H0 ι v x → RpAll K H0 ι vs ds → Fin K H0 ι H Φ Q → r v vs H Q
end

section
variable {I : Type} {F : I → Cx} {K : PySem.W.Frag} {mg : Str → Option Value} {N : List Str} {H0 H0' H H' : Hp} {ι ι' : List Addr} {ρ : Env} {R R' : Rs} {Φ Ψ : Φ1} {Q : VK} {e a b : Expr} {pos p : Pos}
theorem Fin.step (h : Fin K H0 ι H Φ Q) (s : Step H0 ι H H0' ι' H') : Fin K H0' ι' H' Φ Q := fun d R' A B v C hp s' => h d R' A B v C hp (s.trans s')
theorem FinT.step {Φ : Bool → Rs → Prop} {Q : Bool → Hp → Prop} (h : FinT K H0 ι H Φ Q) (s : Step H0 ι H H0' ι' H') : FinT K H0' ι' H' Φ Q := fun d R' A B C hp s' => h d R' A B C hp (s.trans s')
theorem FinA.step {Φ : List D → Rs → Prop} {Q : List V → Hp → Prop} (h : FinA K H0 ι H Φ Q) (s : Step H0 ι H H0' ι' H') : FinA K H0' ι' H' Φ Q := fun d R' A B v C hp s' => h d R' A B v C hp (s.trans s')
theorem Fin.now (h : Fin K H0 ι H Φ Q) (s : SR K H0 ι R H) {v : V} {d : D} (hp : Φ d R) (r : Rp K H0 ι v d) : Q v H := h d R H0 ι v H hp (Step.refl _ _ _) s r
/-- by a reading of one's own -/
theorem DE.of {t : TE} (ht : ∀ i, PE (F i) e t) (h : ∀ (H0 : Hp) (ι : List Addr) (σ : L2.St) (H : Hp) (Q : VK), SR K H0 ι R H → EnvR K H0 ι σ ρ → Fin K H0 ι H Φ Q → t σ H Q) : DE F K e ρ R Φ :=
  fun H0 ι σ H Q s r f => ⟨t, ht, h H0 ι σ H Q s r f⟩
theorem DE.imp (h : DE F K e ρ R Φ) (g : ∀ d R', Φ d R' → Ψ d R') : DE F K e ρ R Ψ := fun H0 ι σ H Q s r f => h H0 ι σ H Q s r fun d R' A B v C hp => f d R' A B v C (g d R' hp)

/-! names, constants -/
theorem de_var {x : Str} {d : D} (k : Nat) (Fm : Fam F K mg N) (hN : N[k]? = some x) (hv : ∀ i, Vis (F i).env.scope x) (hρ : ρ[k]? = some (some d)) (h : Φ d R)
    (hd : (x == ("__debug__" : Str)) = false := by decide) (hcd : (x == ("__classdict__" : Str)) = false := by decide) : DE F K (.Name x pos) ρ R Φ :=
  DE.of (t := tVar k) (fun i => pe_var (by rw [Fm.N i]; exact hN) (hv i) hd hcd) fun H0 ι σ H Q s r f => by
    obtain ⟨v, h1, h2⟩ := r.2 k d hρ
    exact ⟨v, h1, f.now s h h2⟩
theorem de_int {i : Int} {j : Nat} (h : Φ (.int i) R) : DE F K (.Constant (.int i) j pos) ρ R Φ := DE.of (t := tC (.int i)) (fun _ => pe_int) fun _ _ _ _ _ s _ f => f.now s h (.int i)
theorem de_bl {b : Bool} {j : Nat} (h : Φ (.bl b) R) : DE F K (.Constant (.bool b) j pos) ρ R Φ := DE.of (t := tC (.bl b)) (fun _ => pe_bl) fun _ _ _ _ _ s _ f => f.now s h (.bl b)
theorem de_non {j : Nat} (h : Φ .non R) : DE F K (.Constant .none j pos) ρ R Φ := DE.of (t := tC .non) (fun _ => pe_non) fun _ _ _ _ _ s _ f => f.now s h .non
theorem de_str {x : Str} {j : Nat} (h : Φ (.str x) R) : DE F K (.Constant (.str x) j pos) ρ R Φ := DE.of (t := tC (.str x)) (fun _ => pe_str) fun _ _ _ _ _ s _ f => f.now s h (.str x)
/-- a constant of the module -/
theorem de_glo {x : Str} {v : V} {d : D} {u : Value} (Fm : Fam F K mg N) (hg : ∀ i, Gl (F i) x) (hm : mg x = some u) (r : RelV v u) (hr : ∀ H0 ι, Rp K H0 ι v d) (h : Φ d R) (hd : (x == ("__debug__" : Str)) = false := by decide) : DE F K (.Name x pos) ρ R Φ :=
  DE.of (t := tC v) (fun i => pe_glob (hg i) (by rw [Fm.mg i]; exact hm) r hd) fun H0 ι _ _ _ s _ f => f.now s h (hr H0 ι)
theorem de_blt {x : Str} {n : String} (Fm : Fam F K mg N) (hg : ∀ i, Gl (F i) x) (hm : mg x = none) (hv : bootBuiltins x = some (.type n)) (h : Φ (.ty n) R) (hn : x ≠ "__name__" := by decide) (hd : (x == ("__debug__" : Str)) = false := by decide) : DE F K (.Name x pos) ρ R Φ :=
  DE.of (t := tC (.ty n)) (fun i => pe_bltn (hg i) (by rw [Fm.mg i]; exact hm) hv rfl hn hd) fun H0 ι _ _ _ s _ f => f.now s h (.ty n)

/-! operators by values -/
theorem de_bin {op : Operator} {r : R2} (ho : ∀ i, OpR (F i) (binaryOp op) r) (h : DE F K a ρ R fun x R1 => DE F K b ρ R1 fun y R2 => OD K r x y R2 Φ) : DE F K (.BinOp a op b pos) ρ R Φ :=
  DE.of (t := tOp r (UE F a) (UE F b)) (fun i => pe_op (ho i) (pe_u i) (pe_u i)) fun H0 ι σ H Q s r f => h H0 ι σ H _ s r fun d R1 A B v C hb s1 S1 r1 =>
    hb A B σ C _ S1 (r.step s1) fun d2 R2 A2 B2 w C2 ho s2 S2 r2 => ho A2 B2 C2 Q v w S2 (r1.step s2) r2 ((f.step s1).step s2)
theorem de_un {op : UnaryOp} {r : V → Hp → VK → Prop} (ho : ∀ i, UnR (F i) (unaryOp op) r) (h : DE F K a ρ R fun x R1 => CD K (fun vs H Q => ∃ v, vs = [v] ∧ r v H Q) [x] R1 Φ) : DE F K (.UnaryOp op a pos) ρ R Φ :=
  DE.of (t := tUn r (UE F a)) (fun i => pe_un (ho i) (pe_u i)) fun H0 ι σ H Q s r f => h H0 ι σ H _ s r fun d R1 A B v C hb s1 S1 r1 => by
    obtain ⟨w, e, q⟩ := hb A B C Q [v] S1 (.cons r1 .nil) (f.step s1)
    cases e
    exact q
theorem de_cmp {op : CmpOp} {r : R2} (ho : ∀ i, OpR (F i) (compareOp op) r) (hm : behindInMarks op b = false) (h : DE F K a ρ R fun x R1 => DE F K b ρ R1 fun y R2 => OD K r x y R2 Φ) : DE F K (.Compare a [op] [b] pos) ρ R Φ :=
  DE.of (t := tOp r (UE F a) (UE F b)) (fun i => pe_cmpR (ho i) (pe_u i) (pe_u i) hm) fun H0 ι σ H Q s r f => h H0 ι σ H _ s r fun d R1 A B v C hb s1 S1 r1 =>
    hb A B σ C _ S1 (r.step s1) fun d2 R2 A2 B2 w C2 ho s2 S2 r2 => ho A2 B2 C2 Q v w S2 (r1.step s2) r2 ((f.step s1).step s2)
/-- a op b op' c -/
theorem de_chain {op op' : CmpOp} {r r' : R2} {c : Expr} (ho : ∀ i, OpR (F i) (compareOp op) r) (ho' : ∀ i, OpR (F i) (compareOp op') r')
    (h : DE F K a ρ R fun x R1 => DE F K b ρ R1 fun y R2 => OD K r x y R2 fun z R3 => ∃ k, z = .bl k ∧ (k = true → DE F K c ρ R3 fun w R4 => OD K r' y w R4 Φ) ∧ (k = false → Φ (.bl false) R3)) (hm : lastMarks [op, op'] [b, c] = false := by with_unfolding_all rfl) : DE F K (.Compare a [op, op'] [b, c] pos) ρ R Φ :=
  DE.of (t := tChain r r' (UE F a) (UE F b) (UE F c)) (fun i => pe_chain (ho i) (ho' i) (pe_u i) (pe_u i) (pe_u i) (hm := hm)) fun H0 ι σ H Q s r f => h H0 ι σ H _ s r fun d R1 A B v C hb s1 S1 r1 =>
    hb A B σ C _ S1 (r.step s1) fun d2 R2 A2 B2 w C2 ho s2 S2 r2 => ho A2 B2 C2 _ v w S2 (r1.step s2) r2 fun d3 R3 A3 B3 z C3 hk s3 S3 r3 => by
      obtain ⟨k, e, h1, h2⟩ := hk
      subst e
      cases r3
      refine ⟨k, rfl, ?_⟩
      cases k with
      | true => exact h1 rfl A3 B3 σ C3 _ S3 (((r.step s1).step s2).step s3) fun d4 R4 A4 B4 w4 C4 ho' s4 S4 r4 => ho' A4 B4 C4 Q w w4 S4 ((r2.step s3).step s4) r4 ((((f.step s1).step s2).step s3).step s4)
      | false => exact (((f.step s1).step s2).step s3).now S3 (h2 rfl) (.bl false)

/-! and, or, not, conditions as values -/
theorem de_and {rest : List Expr} (h : DE F K a ρ R fun x R1 => ∃ k, x = .bl k ∧ (k = true → DE F K (.BoolOp .And (b :: rest) pos) ρ R1 Φ) ∧ (k = false → Φ (.bl false) R1)) : DE F K (.BoolOp .And (a :: b :: rest) pos) ρ R Φ :=
  DE.of (t := tAndV (UE F a) (UE F (.BoolOp .And (b :: rest) pos))) (fun i => pe_and (pe_u i) (pe_u i)) fun H0 ι σ H Q s r f => h H0 ι σ H _ s r fun d R1 A B v C hk s1 S1 r1 => by
    obtain ⟨k, e, h1, h2⟩ := hk
    subst e
    cases r1
    refine ⟨k, rfl, ?_⟩
    cases k with
    | true => exact h1 rfl A B σ C Q S1 (r.step s1) (f.step s1)
    | false => exact (f.step s1).now S1 (h2 rfl) (.bl false)
theorem de_or {rest : List Expr} (h : DE F K a ρ R fun x R1 => ∃ k, x = .bl k ∧ (k = true → Φ (.bl true) R1) ∧ (k = false → DE F K (.BoolOp .Or (b :: rest) pos) ρ R1 Φ)) : DE F K (.BoolOp .Or (a :: b :: rest) pos) ρ R Φ :=
  DE.of (t := tOrV (UE F a) (UE F (.BoolOp .Or (b :: rest) pos))) (fun i => pe_or (pe_u i) (pe_u i)) fun H0 ι σ H Q s r f => h H0 ι σ H _ s r fun d R1 A B v C hk s1 S1 r1 => by
    obtain ⟨k, e, h1, h2⟩ := hk
    subst e
    cases r1
    refine ⟨k, rfl, ?_⟩
    cases k with
    | true => exact (f.step s1).now S1 (h1 rfl) (.bl true)
    | false => exact h2 rfl A B σ C Q S1 (r.step s1) (f.step s1)
theorem de_one {op : BoolOp} (h : DE F K a ρ R Φ) : DE F K (.BoolOp op [a] pos) ρ R Φ := DE.of (t := UE F a) (fun i => pe_one (pe_u i)) fun H0 ι σ H Q s r f => h H0 ι σ H Q s r f
theorem de_not (h : DE F K a ρ R fun x R1 => ∃ k, x = .bl k ∧ Φ (.bl (!k)) R1) : DE F K (.UnaryOp .Not a pos) ρ R Φ :=
  DE.of (t := tNotV (UE F a)) (fun i => pe_not (pe_u i)) fun H0 ι σ H Q s r f => h H0 ι σ H _ s r fun d R1 A B v C hk s1 S1 r1 => by
    obtain ⟨k, e, h1⟩ := hk
    subst e
    cases r1
    exact ⟨k, rfl, (f.step s1).now S1 h1 (.bl _)⟩
theorem de_ite {c : Expr} (h : DT F K c ρ R fun k R1 => (k = true → DE F K a ρ R1 Φ) ∧ (k = false → DE F K b ρ R1 Φ)) : DE F K (.IfExp c a b pos) ρ R Φ :=
  DE.of (t := tIf (UT F c) (UE F a) (UE F b)) (fun i => pe_ifExp (pt_u i) (pe_u i) (pe_u i)) fun H0 ι σ H Q s r f => h H0 ι σ H _ s r fun k R1 A B C hk s1 S1 => by
    cases k with
    | true => exact hk.1 rfl A B σ C Q S1 (r.step s1) (f.step s1)
    | false => exact hk.2 rfl A B σ C Q S1 (r.step s1) (f.step s1)

/-! tests -/
section
variable {Φ : Bool → Rs → Prop} {rest : List Expr}
theorem DT.of {t : TT} (ht : ∀ i, PT (F i) e t) (h : ∀ (H0 : Hp) (ι : List Addr) (σ : L2.St) (H : Hp) (Q : Bool → Hp → Prop), SR K H0 ι R H → EnvR K H0 ι σ ρ → FinT K H0 ι H Φ Q → t σ H Q) : DT F K e ρ R Φ :=
  fun H0 ι σ H Q s r f => ⟨t, ht, h H0 ι σ H Q s r f⟩
theorem DW.of {t : TT} (ht : ∀ i, PW (F i) e t) (h : ∀ (H0 : Hp) (ι : List Addr) (σ : L2.St) (H : Hp) (Q : Bool → Hp → Prop), SR K H0 ι R H → EnvR K H0 ι σ ρ → FinT K H0 ι H Φ Q → t σ H Q) : DW F K e ρ R Φ :=
  fun H0 ι σ H Q s r f => ⟨t, ht, h H0 ι σ H Q s r f⟩
/-- a bool as a test -/
theorem dt_val (h : DE F K e ρ R fun x R1 => ∃ k, x = .bl k ∧ Φ k R1) (he : ∀ i whole, isTrue e (F i).env whole = (do let v ← whole; standAt e.pos; holding [v] (truthy v)) := by intro _ _; rfl) : DT F K e ρ R Φ :=
  DT.of (t := tB (UE F e)) (fun i => pt_val (pe_u i) (he i)) fun H0 ι σ H Q s r f => h H0 ι σ H _ s r fun d R1 A B v C hk s1 S1 r1 => by
    obtain ⟨k, e, h1⟩ := hk
    subst e
    cases r1
    exact ⟨k, rfl, (f.step s1) k R1 A B C h1 (Step.refl _ _ _) S1⟩
theorem dt_cmp {op : CmpOp} {r : R2} (ho : ∀ i, OpR (F i) (compareOp op) r) (hm : behindInMarks op b = false) (h : DE F K a ρ R fun x R1 => DE F K b ρ R1 fun y R2 => OD K r x y R2 fun z R3 => ∃ k, z = .bl k ∧ Φ k R3) : DT F K (.Compare a [op] [b] pos) ρ R Φ :=
  DT.of (t := tTest (tOp r (UE F a) (UE F b))) (fun i => pt_cmpR (ho i) (pe_u i) (pe_u i) hm) fun H0 ι σ H Q s r f => h H0 ι σ H _ s r fun d R1 A B v C hb s1 S1 r1 =>
    hb A B σ C _ S1 (r.step s1) fun d2 R2 A2 B2 w C2 ho s2 S2 r2 => ho A2 B2 C2 _ v w S2 (r1.step s2) r2 fun d3 R3 A3 B3 z C3 hk s3 S3 r3 => by
      obtain ⟨k, e, h1⟩ := hk
      subst e
      cases r3
      exact ⟨k, rfl, (((f.step s1).step s2).step s3) k R3 A3 B3 C3 h1 (Step.refl _ _ _) S3⟩
theorem dt_chain {op op' : CmpOp} {r r' : R2} {c : Expr} (ho : ∀ i, OpR (F i) (compareOp op) r) (ho' : ∀ i, OpR (F i) (compareOp op') r')
    (h : DE F K a ρ R fun x R1 => DE F K b ρ R1 fun y R2 => OD K r x y R2 fun z R3 => ∃ k, z = .bl k ∧ (k = true → DE F K c ρ R3 fun w R4 => OD K r' y w R4 fun z R5 => ∃ k, z = .bl k ∧ Φ k R5) ∧ (k = false → Φ false R3)) (hm : lastMarks [op, op'] [b, c] = false := by with_unfolding_all rfl) : DT F K (.Compare a [op, op'] [b, c] pos) ρ R Φ :=
  DT.of (t := tTest (tChain r r' (UE F a) (UE F b) (UE F c))) (fun i => pt_chain (ho i) (ho' i) (pe_u i) (pe_u i) (pe_u i) (hm := hm)) fun H0 ι σ H Q s r f => h H0 ι σ H _ s r fun d R1 A B v C hb s1 S1 r1 =>
    hb A B σ C _ S1 (r.step s1) fun d2 R2 A2 B2 w C2 ho s2 S2 r2 => ho A2 B2 C2 _ v w S2 (r1.step s2) r2 fun d3 R3 A3 B3 z C3 hk s3 S3 r3 => by
      obtain ⟨k, e, h1, h2⟩ := hk
      subst e
      cases r3
      refine ⟨k, rfl, ?_⟩
      cases k with
      | true =>
        exact h1 rfl A3 B3 σ C3 _ S3 (((r.step s1).step s2).step s3) fun d4 R4 A4 B4 w4 C4 ho' s4 S4 r4 => ho' A4 B4 C4 _ w w4 S4 ((r2.step s3).step s4) r4 fun d5 R5 A5 B5 z5 C5 hk5 s5 S5 r5 => by
          obtain ⟨k5, e5, h5⟩ := hk5
          subst e5
          cases r5
          exact ⟨k5, rfl, (((((f.step s1).step s2).step s3).step s4).step s5) k5 R5 A5 B5 C5 h5 (Step.refl _ _ _) S5⟩
      | false => exact ⟨false, rfl, (((f.step s1).step s2).step s3) false R3 A3 B3 C3 (h2 rfl) (Step.refl _ _ _) S3⟩
theorem dt_not (h : DT F K a ρ R fun k R1 => Φ (!k) R1) : DT F K (.UnaryOp .Not a pos) ρ R Φ :=
  DT.of (t := tNot (UT F a)) (fun i => pt_not (pt_u i)) fun H0 ι σ H Q s r f => h H0 ι σ H _ s r fun k R1 A B C hk s1 S1 => (f.step s1) _ R1 A B C hk (Step.refl _ _ _) S1
theorem dw_and1 (h : DT F K a ρ R Φ) : DW F K (.BoolOp .And [a] pos) ρ R Φ := DW.of (t := UT F a) (fun i => pw_and1 (pt_u i)) fun H0 ι σ H Q s r f => h H0 ι σ H Q s r f
theorem dw_or1 (h : DT F K a ρ R Φ) : DW F K (.BoolOp .Or [a] pos) ρ R Φ := DW.of (t := UT F a) (fun i => pw_or1 (pt_u i)) fun H0 ι σ H Q s r f => h H0 ι σ H Q s r f
theorem dw_and (h : DT F K a ρ R fun k R1 => (k = true → DW F K (.BoolOp .And (b :: rest) pos) ρ R1 Φ) ∧ (k = false → Φ false R1)) : DW F K (.BoolOp .And (a :: b :: rest) pos) ρ R Φ :=
  DW.of (t := tAnd (UT F a) (UW F (.BoolOp .And (b :: rest) pos))) (fun i => pw_and (pt_u i) (pw_u i)) fun H0 ι σ H Q s r f => h H0 ι σ H _ s r fun k R1 A B C hk s1 S1 => by
    cases k with
    | true => exact hk.1 rfl A B σ C Q S1 (r.step s1) (f.step s1)
    | false => exact (f.step s1) false R1 A B C (hk.2 rfl) (Step.refl _ _ _) S1
theorem dw_or (h : DT F K a ρ R fun k R1 => (k = true → Φ true R1) ∧ (k = false → DW F K (.BoolOp .Or (b :: rest) pos) ρ R1 Φ)) : DW F K (.BoolOp .Or (a :: b :: rest) pos) ρ R Φ :=
  DW.of (t := tOr (UT F a) (UW F (.BoolOp .Or (b :: rest) pos))) (fun i => pw_or (pt_u i) (pw_u i)) fun H0 ι σ H Q s r f => h H0 ι σ H _ s r fun k R1 A B C hk s1 S1 => by
    cases k with
    | true => exact (f.step s1) true R1 A B C (hk.1 rfl) (Step.refl _ _ _) S1
    | false => exact hk.2 rfl A B σ C Q S1 (r.step s1) (f.step s1)
theorem DW.dt (h : DW F K e ρ R Φ) : DT F K e ρ R Φ := fun H0 ι σ H Q s r f => by
  obtain ⟨t, ht, q⟩ := h H0 ι σ H Q s r f
  exact ⟨t, fun i => (ht i).pt, q⟩
end

/-! argument lists -/
section
variable {Φ : List D → Rs → Prop} {es : List Expr}
theorem da_nil (h : Φ [] R) : DA F K [] ρ R Φ := fun H0 ι σ H Q s r f => ⟨tNil, fun _ => pa_nil, f [] R H0 ι [] H h (Step.refl _ _ _) s .nil⟩
theorem da_cons (h : DE F K e ρ R fun x R1 => DA F K es ρ R1 fun xs R2 => Φ (x :: xs) R2) (hs : ∀ i, starEach (e :: es) (F i).env = (false, eval e (F i).env) :: starEach es (F i).env := by intro _; rfl) : DA F K (e :: es) ρ R Φ :=
  fun H0 ι σ H Q s r f => ⟨tCons (UE F e) (UA F es), fun i => pa_cons (pe_u i) (pa_u i) (hs i), h H0 ι σ H _ s r fun d R1 A B v C hb s1 S1 r1 =>
    hb A B σ C _ S1 (r.step s1) fun ds R2 A2 B2 vs C2 hd s2 S2 r2 => f _ R2 A2 B2 _ C2 hd (s1.trans s2) S2 (.cons (r1.step s2) r2)⟩
end
section
variable {es : List Expr}
/-- a tuple, a list that stays as it is -/
theorem de_tup {x1 : Nat} (h : DA F K es ρ R fun ds R1 => ds.length ≤ sizeLine ∧ Φ (.tup ds) R1) : DE F K (.Tuple es x1 pos) ρ R Φ :=
  DE.of (t := tTup (UA F es)) (fun i => pe_tup (pa_u i)) fun H0 ι σ H Q s r f => h H0 ι σ H _ s r fun ds R1 A B vs C hb s1 S1 r1 => ⟨by rw [r1.length]; exact hb.1, fun p hp => by
    obtain ⟨S2, s2⟩ := S1.laid (o := .tup vs) hp
    exact ((f.step s1).step s2).now S2 hb.2 (.tup (.inl upd_same) (r1.step s2))⟩
theorem de_lst (h : DA F K es ρ R fun ds R1 => ds.length ≤ sizeLine ∧ Φ (.lst ds) R1) : DE F K (.List es pos) ρ R Φ :=
  DE.of (t := tLst (UA F es)) (fun i => pe_lst (pa_u i)) fun H0 ι σ H Q s r f => h H0 ι σ H _ s r fun ds R1 A B vs C hb s1 S1 r1 => ⟨by rw [r1.length]; exact hb.1, fun p hp => by
    obtain ⟨S2, s2⟩ := S1.laid (o := .lst vs) hp
    exact ((f.step s1).step s2).now S2 hb.2 (.lst upd_same (r1.step s2))⟩
/-- a list that is to change: a new place -/
theorem de_lstO (h : DA F K es ρ R fun ds R1 => ds.length ≤ sizeLine ∧ Φ (.own R1.length) (R1 ++ [.lst ds])) : DE F K (.List es pos) ρ R Φ :=
  DE.of (t := tLst (UA F es)) (fun i => pe_lst (pa_u i)) fun H0 ι σ H Q s r f => h H0 ι σ H _ s r fun ds R1 A B vs C hb s1 S1 r1 => ⟨by rw [r1.length]; exact hb.1, fun p hp => by
    obtain ⟨S2, s2, last⟩ := S1.place hp r1
    exact ((f.step s1).step s2).now S2 hb.2 (.own last)⟩
end
/-- a built-in function, type by values -/
theorem de_blf {x : Str} {id : String} {es : List Expr} {r : List V → Hp → VK → Prop} (Fm : Fam F K mg N) (hg : ∀ i, Gl (F i) x) (hm : mg x = none) (hv : bootBuiltins x = some (.builtin id)) (hc : ∀ i, CallR (F i) (.builtin id) r)
    (h : DA F K (e :: es) ρ R fun ds R1 => CD K r ds R1 Φ) (hst : ∀ i, starEach (e :: es) (F i).env = (false, eval e (F i).env) :: starEach es (F i).env := by intro _; rfl) (hpl : ∀ i, (backTo pos (starEach es (F i).env)).any (·.1) = false := by intro _; rfl)
    (hn : x ≠ "__name__" := by decide) (hd : (x == ("__debug__" : Str)) = false := by decide) : DE F K (.Call (.Name x p) (e :: es) [] pos) ρ R Φ :=
  DE.of (t := tCB r (UA F (e :: es))) (fun i => pe_callB (hc i) (hg i) (by rw [Fm.mg i]; exact hm) hv (pa_u i) (hn := hn) (hdb := hd) (he := hst i) (hpl := hpl i)) fun H0 ι σ H Q s r f => h H0 ι σ H _ s r fun ds R1 A B vs C hb s1 S1 r1 => hb A B C Q vs S1 r1 (f.step s1)
theorem de_blty {x : Str} {id : String} {es : List Expr} {r : List V → Hp → VK → Prop} (Fm : Fam F K mg N) (hg : ∀ i, Gl (F i) x) (hm : mg x = none) (hv : bootBuiltins x = some (.type id)) (hc : ∀ i, CallR (F i) (.type id) r)
    (h : DA F K (e :: es) ρ R fun ds R1 => CD K r ds R1 Φ) (hst : ∀ i, starEach (e :: es) (F i).env = (false, eval e (F i).env) :: starEach es (F i).env := by intro _; rfl) (hpl : ∀ i, (backTo pos (starEach es (F i).env)).any (·.1) = false := by intro _; rfl)
    (hn : x ≠ "__name__" := by decide) (hd : (x == ("__debug__" : Str)) = false := by decide) : DE F K (.Call (.Name x p) (e :: es) [] pos) ρ R Φ :=
  DE.of (t := tCB r (UA F (e :: es))) (fun i => pe_callTy (hc i) (hg i) (by rw [Fm.mg i]; exact hm) hv (pa_u i) (hn := hn) (hdb := hd) (he := hst i) (hpl := hpl i)) fun H0 ι σ H Q s r f => h H0 ι σ H _ s r fun ds R1 A B vs C hb s1 S1 r1 => hb A B C Q vs S1 r1 (f.step s1)
/-- items -/
theorem de_ix {r : R2} (hr : ∀ i, IxR (F i) r) (h : DE F K a ρ R fun x R1 => DE F K b ρ R1 fun y R2 => OD K r x y R2 Φ) (hs : PlainIx b := by intro _ _; rfl) : DE F K (.Subscript a b pos) ρ R Φ :=
  DE.of (t := tOp r (UE F a) (UE F b)) (fun i => pe_ix (hr i) (pe_u i) (pe_u i) hs) fun H0 ι σ H Q s r f => h H0 ι σ H _ s r fun d R1 A B v C hb s1 S1 r1 =>
    hb A B σ C _ S1 (r.step s1) fun d2 R2 A2 B2 w C2 ho s2 S2 r2 => ho A2 B2 C2 Q v w S2 (r1.step s2) r2 ((f.step s1).step s2)
end
end DL
namespace DL
open PySem PySem.Spec PyProof.Rows L2

structure DEnds where
  nx : Env → Rs → Prop
  rt : D → Rs → Prop
  bk : Env → Rs → Prop := fun _ _ => False
  ct : Env → Rs → Prop := fun _ _ => False
def FinE (K : PySem.W.Frag) (H0 : Hp) (ι : List Addr) (H : Hp) (Ψ : Env → Rs → Prop) (Q : L2.St → Hp → Prop) : Prop := ∀ ρ' R' H0' ι' σ' H', Ψ ρ' R' → Step H0 ι H H0' ι' H' → SR K H0' ι' R' H' → EnvR K H0' ι' σ' ρ' → Q σ' H'
structure Ful (K : PySem.W.Frag) (H0 : Hp) (ι : List Addr) (H : Hp) (E : DEnds) (D : Ends) : Prop where
  nx : FinE K H0 ι H E.nx D.nx
  rt : Fin K H0 ι H E.rt D.rt
  bk : FinE K H0 ι H E.bk D.bk
  ct : FinE K H0 ι H E.ct D.ct
section
variable {I : Type} (F : I → Cx) (K : PySem.W.Frag)
def DS (st : Stmt) (ρ : Env) (R : Rs) (E : DEnds) : Prop := ∀ (H0 : Hp) (ι : List Addr) (σ : L2.St) (H : Hp) (D : Ends), SR K H0 ι R H → EnvR K H0 ι σ ρ → Ful K H0 ι H E D → US F st D σ H
def DSs (sts : List Stmt) (ρ : Env) (R : Rs) (E : DEnds) : Prop := ∀ (H0 : Hp) (ι : List Addr) (σ : L2.St) (H : Hp) (D : Ends), SR K H0 ι R H → EnvR K H0 ι σ ρ → Ful K H0 ι H E D → USs F sts D σ H
/-- a target gets x -/
def DG (tg : Expr) (x : D) (ρ : Env) (R : Rs) (Ψ : Env → Rs → Prop) : Prop := ∀ (H0 : Hp) (ι : List Addr) (σ : L2.St) (H : Hp) (v : V) (Q : L2.St → Hp → Prop), SR K H0 ι R H → EnvR K H0 ι σ ρ → Rp K H0 ι v x → FinE K H0 ι H Ψ Q → UG F tg v σ H Q
def UGs (tgs : List Expr) : TGs := fun vs σ H Q => ∃ t : TGs, (∀ i, PGs (F i) tgs t) ∧ t vs σ H Q
def DGs (tgs : List Expr) (xs : List D) (ρ : Env) (R : Rs) (Ψ : Env → Rs → Prop) : Prop := ∀ (H0 : Hp) (ι : List Addr) (σ : L2.St) (H : Hp) (vs : List V) (Q : L2.St → Hp → Prop), SR K H0 ι R H → EnvR K H0 ι σ ρ → RpAll K H0 ι vs xs → FinE K H0 ι H Ψ Q → UGs F tgs vs σ H Q
end
section
variable {I : Type} {F : I → Cx} {K : PySem.W.Frag} {mg : Str → Option Value} {N : List Str} {H0 H0' H H' : Hp} {ι ι' : List Addr} {ρ : Env} {R R' : Rs} {Φ : Φ1} {Ψ Ψ' : Env → Rs → Prop} {Q : L2.St → Hp → Prop} {e a b tg : Expr} {pos p : Pos} {E E' : DEnds} {D : Ends} {st : Stmt} {sts rest : List Stmt}
theorem pgs_u {tgs : List Expr} (i : I) : PGs (F i) tgs (UGs F tgs) := ⟨fun pins s σ H vs us Q I r h => by
  obtain ⟨t, ht, q⟩ := h
  exact (ht i).run pins s σ H vs us Q I r q⟩
theorem FinE.step (h : FinE K H0 ι H Ψ Q) (s : Step H0 ι H H0' ι' H') : FinE K H0' ι' H' Ψ Q := fun d R' A B v C hp s' => h d R' A B v C hp (s.trans s')
theorem FinE.now (h : FinE K H0 ι H Ψ Q) (s : SR K H0 ι R H) {σ : L2.St} (hp : Ψ ρ R) (r : EnvR K H0 ι σ ρ) : Q σ H := h ρ R H0 ι σ H hp (Step.refl _ _ _) s r
theorem Ful.step (h : Ful K H0 ι H E D) (s : Step H0 ι H H0' ι' H') : Ful K H0' ι' H' E D := ⟨h.nx.step s, h.rt.step s, h.bk.step s, h.ct.step s⟩
theorem DS.of {t : TS} (ht : ∀ i, PS (F i) st t) (h : ∀ (H0 : Hp) (ι : List Addr) (σ : L2.St) (H : Hp) (D : Ends), SR K H0 ι R H → EnvR K H0 ι σ ρ → Ful K H0 ι H E D → t D σ H) : DS F K st ρ R E :=
  fun H0 ι σ H D s r f => ⟨t, ht, h H0 ι σ H D s r f⟩
theorem DG.of {t : TG} {x : DL.D} (ht : ∀ i, PG (F i) tg t) (h : ∀ (H0 : Hp) (ι : List Addr) (σ : L2.St) (H : Hp) (v : V) (Q : L2.St → Hp → Prop), SR K H0 ι R H → EnvR K H0 ι σ ρ → Rp K H0 ι v x → FinE K H0 ι H Ψ Q → t v σ H Q) : DG F K tg x ρ R Ψ :=
  fun H0 ι σ H v Q s r rv f => ⟨t, ht, h H0 ι σ H v Q s r rv f⟩
/-- other ends that are as good -/
theorem DSs.imp (h : DSs F K sts ρ R E) (h1 : ∀ ρ' R', E.nx ρ' R' → E'.nx ρ' R') (h2 : ∀ d R', E.rt d R' → E'.rt d R') (h3 : ∀ ρ' R', E.bk ρ' R' → E'.bk ρ' R') (h4 : ∀ ρ' R', E.ct ρ' R' → E'.ct ρ' R') : DSs F K sts ρ R E' :=
  fun H0 ι σ H D s r f => h H0 ι σ H D s r ⟨fun a b c d e g z => f.nx a b c d e g (h1 _ _ z), fun a b c d e g z => f.rt a b c d e g (h2 _ _ z), fun a b c d e g z => f.bk a b c d e g (h3 _ _ z), fun a b c d e g z => f.ct a b c d e g (h4 _ _ z)⟩
/-- less is known of the slots -/
theorem DSs.weak {ρ' : Env} (hl : ρ'.length = ρ.length) (w : ∀ (i : Nat) (d : DL.D), ρ[i]? = some (some d) → ρ'[i]? = some (some d)) (h : DSs F K sts ρ R E) : DSs F K sts ρ' R E :=
  fun H0 ι σ H D s r f => h H0 ι σ H D s ⟨r.1.trans hl, fun i d e => r.2 i d (w i d e)⟩ f

theorem dss_nil (h : E.nx ρ R) : DSs F K [] ρ R E := fun H0 ι σ H D s r f => ⟨tNext, fun _ => pss_nil, f.nx.now s h r⟩
theorem dss_cons (h : DS F K st ρ R { E with nx := fun ρ' R' => DSs F K rest ρ' R' E }) : DSs F K (st :: rest) ρ R E := fun H0 ι σ H D s r f =>
  ⟨tSeq (US F st) (USs F rest), fun i => pss_cons (ps_u i) (pss_u i), h H0 ι σ H { D with nx := USs F rest D } s r ⟨fun ρ' R' A B σ' C hp s1 S1 r1 => hp A B σ' C D S1 r1 (f.step s1), f.rt, f.bk, f.ct⟩⟩
theorem dss_one (h : DS F K st ρ R E) : DSs F K [st] ρ R E := fun H0 ι σ H D s r f => ⟨US F st, fun i => pss_one (ps_u i), h H0 ι σ H D s r f⟩
theorem ds_pass (h : E.nx ρ R) : DS F K (.Pass pos) ρ R E := DS.of (t := tNext) (fun _ => ps_pass) fun H0 ι σ H D s r f => f.nx.now s h r
theorem ds_break (h : E.bk ρ R) : DS F K (.Break pos) ρ R E := DS.of (t := tBreak) (fun _ => ps_break) fun H0 ι σ H D s r f => f.bk.now s h r
theorem ds_cont (h : E.ct ρ R) : DS F K (.Continue pos) ρ R E := DS.of (t := tCont) (fun _ => ps_continue) fun H0 ι σ H D s r f => f.ct.now s h r
theorem ds_doc {x : Str} {j : Nat} {p' : Pos} (h : E.nx ρ R) : DS F K (.Expr (.Constant (.str x) j p) p') ρ R E := DS.of (t := tNext) (fun _ => ps_doc) fun H0 ι σ H D s r f => f.nx.now s h r
theorem ds_expr (h : DE F K e ρ R fun _ R' => E.nx ρ R') (hs : ∀ i, swapsWith e none pos.line (F i).env = pure false := by intro _; rfl) : DS F K (.Expr e pos) ρ R E :=
  DS.of (t := tDrop (UE F e)) (fun i => ps_expr (pe_u i) (hs i)) fun H0 ι σ H D s r f => h H0 ι σ H _ s r fun d R' A B v C hp s1 S1 r1 => (f.nx.step s1).now S1 hp (r.step s1)
theorem ds_ret (h : DE F K e ρ R E.rt) : DS F K (.Return (some e) pos) ρ R E :=
  DS.of (t := tRet (UE F e)) (fun i => ps_ret (pe_u i)) fun H0 ι σ H D s r f => h H0 ι σ H _ s r f.rt
theorem ds_retN (h : E.rt .non R) : DS F K (.Return none pos) ρ R E := DS.of (t := tRetN) (fun _ => ps_retN) fun H0 ι σ H D s r f => f.rt.now s h .non
theorem ds_if {c : Expr} {as bs : List Stmt} (h : DT F K c ρ R fun k R' => (k = true → DSs F K as ρ R' E) ∧ (k = false → DSs F K bs ρ R' E)) : DS F K (.If c as bs pos) ρ R E :=
  DS.of (t := tIfS (UT F c) (USs F as) (USs F bs)) (fun i => ps_if (pt_u i) (pss_u i) (pss_u i)) fun H0 ι σ H D s r f => h H0 ι σ H _ s r fun k R' A B C hp s1 S1 => by
    cases k with
    | true => exact hp.1 rfl A B σ C D S1 (r.step s1) (f.step s1)
    | false => exact hp.2 rfl A B σ C D S1 (r.step s1) (f.step s1)
/-- x = e -/
theorem ds_set {x : Str} {px : Pos} (k : Nat) (Fm : Fam F K mg N) (hi : N[k]? = some x) (hx : ∀ i, Loc (F i).env.scope x) (h : DE F K e ρ R fun d R' => E.nx (ρ.set k (some d)) R')
    (hs : ∀ i, swapsWith e (some (.Name x px)) pos.line (F i).env = pure false := by intro _; rfl) (hf : ∀ i, (F i).fn x = true ∨ (F i).env.scope.names.lookup x = some .local := by intro _; first | exact .inl rfl | exact .inr rfl) : DS F K (.Assign [.Name x px] e pos) ρ R E :=
  DS.of (t := tAsg (UE F e) (gName k)) (fun i => ps_set (by rw [Fm.N i]; exact Fm.nd) (by rw [Fm.N i]; exact hi) (hx i) (pe_u i) (hs i) (hf i)) fun H0 ι σ H D s r f => h H0 ι σ H _ s r fun d R' A B v C hp s1 S1 r1 =>
    (f.nx.step s1).now S1 hp ((r.step s1).set r1 k)
/-- x op= e, by values -/
theorem dg_name {x : Str} {d : DL.D} (k : Nat) (Fm : Fam F K mg N) (hi : N[k]? = some x) (hx : ∀ i, Loc (F i).env.scope x) (h : Ψ (ρ.set k (some d)) R)
    (hf : ∀ i, (F i).fn x = true ∨ (F i).env.scope.names.lookup x = some .local := by intro _; first | exact .inl rfl | exact .inr rfl) : DG F K (.Name x p) d ρ R Ψ :=
  DG.of (t := gName k) (fun i => pg_name (by rw [Fm.N i]; exact Fm.nd) (by rw [Fm.N i]; exact hi) (hx i) (hf i)) fun H0 ι σ H v Q s r rv f => f.now s h (r.set rv k)
theorem dgs_nil (h : Ψ ρ R) : DGs F K [] [] ρ R Ψ := fun H0 ι σ H vs Q s r rv f => by
  cases rv
  exact ⟨gNil, fun _ => pgs_nil, rfl, f.now s h r⟩
theorem dgs_cons {tgs : List Expr} {d : DL.D} {ds : List DL.D} (h : DG F K tg d ρ R fun ρ' R' => DGs F K tgs ds ρ' R' Ψ) (hs : ∀ i, (assignEach (tg :: tgs) (F i).env).map (·.2) = assign tg (F i).env :: (assignEach tgs (F i).env).map (·.2) := by intro _; rfl) : DGs F K (tg :: tgs) (d :: ds) ρ R Ψ :=
  fun H0 ι σ H vs Q s r rv f => by
    cases rv with
    | cons r1 rr =>
      refine ⟨gCons (UG F tg) (UGs F tgs), fun i => pgs_cons ⟨?_⟩ (pgs_u i) (hs i), _, _, rfl, ?_⟩
      · intro pins s σ H v u Q I r h
        obtain ⟨t, ht, q⟩ := h
        exact (ht i).run pins s σ H v u Q I r q
      · exact h H0 ι σ H _ _ s r r1 fun ρ' R' A B σ' C hp s1 S1 r2 => hp A B σ' C _ Q S1 r2 (rr.step s1) (f.step s1)
theorem pg_or {X : Cx} {t u : TG} (h1 : PG X tg t) (h2 : PG X tg u) : PG X tg (fun v σ H Q => t v σ H Q ∨ u v σ H Q) := ⟨fun pins s σ H v w Q I r h => h.elim (h1.run pins s σ H v w Q I r) (h2.run pins s σ H v w Q I r)⟩
/-- a, b, .. = a tuple, a list -/
theorem dg_tup {tgs : List Expr} {ds : List DL.D} {x : DL.D} {k : Nat} (Fm : Fam F K mg N) (hx : x = .tup ds ∨ x = .lst ds) (hl : ds.length = tgs.length) (h : DGs F K tgs ds ρ R Ψ)
    (hn : ∀ i, (assignEach tgs (F i).env).length = tgs.length := by intro _; rfl) (hst : ∀ i, (assignEach tgs (F i).env).findIdx? (·.1) = none := by intro _; rfl) : DG F K (.Tuple tgs k p) x ρ R Ψ :=
  DG.of (t := fun v σ H Q => gTup K tgs.length (UGs F tgs) v σ H Q ∨ gUnl K tgs.length (UGs F tgs) v σ H Q) (fun i => pg_or (Fm.K i ▸ pg_tup (Fm.calm i) (pgs_u i) (hn i) (hst i)) (Fm.K i ▸ pg_unl (Fm.calm i) (pgs_u i) (hn i) (hst i))) fun H0 ι σ H v Q s r rv f => by
    rcases hx with rfl | rfl
    · cases rv with
      | tup ha ra => exact .inl ⟨_, _, rfl, (ha.mono s.ex).sqT, by rw [ra.length]; exact hl, h H0 ι σ H _ Q s r ra f⟩
    · cases rv with
      | lst ha ra => exact .inr ⟨_, _, rfl, .inl (.inl (s.ex _ _ ha)), by rw [ra.length]; exact hl, h H0 ι σ H _ Q s r ra f⟩
/-- target = e -/
theorem ds_asg (h : DE F K e ρ R fun d R' => DG F K tg d ρ R' E.nx) (hs : ∀ i, swapsWithSole [tg] e pos.line (F i).env = pure false := by intro _; rfl) (hw : ∀ i, swappedStores [tg] e (F i).env = pure none := by intro _; rfl)
    (h1 : ∀ i, (assignEach [tg] (F i).env).map (·.2) = [assign tg (F i).env] := by intro _; rfl) : DS F K (.Assign [tg] e pos) ρ R E :=
  DS.of (t := tAsg (UE F e) (UG F tg)) (fun i => ps_asg (pe_u i) ⟨fun pins s σ H v u Q I r h => by
      obtain ⟨t, ht, q⟩ := h
      exact (ht i).run pins s σ H v u Q I r q⟩ (hs i) (hw i) (h1 i)) fun H0 ι σ H D s r f => h H0 ι σ H _ s r fun d R' A B v C hp s1 S1 r1 => hp A B σ C v D.nx S1 (r.step s1) r1 (f.nx.step s1)
/-- x, y = a, b with plain local names -/
theorem ds_par {x y : Str} {px py pt pt2 : Pos} {kt k2 : Nat} (i j : Nat) (Fm : Fam F K mg N) (hi : N[i]? = some x) (hj : N[j]? = some y) (hij : i ≠ j) (hx : ∀ q, (F q).env.scope.names.lookup x = some .local) (hy : ∀ q, (F q).env.scope.names.lookup y = some .local)
    (hw : ∀ q, swappedStores [.Tuple [.Name x px, .Name y py] kt pt] (.Tuple [a, b] k2 pt2) (F q).env = pure (some [x, y])) (h : DA F K [a, b] ρ R fun ds R' => ∃ d1 d2, ds = [d1, d2] ∧ E.nx ((ρ.set i (some d1)).set j (some d2)) R')
    (hs : ∀ q, swapsWithSole [.Tuple [.Name x px, .Name y py] kt pt] (.Tuple [a, b] k2 pt2) pos.line (F q).env = pure false := by intro _; rfl) : DS F K (.Assign [.Tuple [.Name x px, .Name y py] kt pt] (.Tuple [a, b] k2 pt2) pos) ρ R E :=
  DS.of (t := tPar i j (UA F [a, b])) (fun q => ps_par (Fm.calm q) (by rw [Fm.N q]; exact Fm.nd) (by rw [Fm.N q]; exact hi) (by rw [Fm.N q]; exact hj) hij (hx q) (hy q) (pa_u q) (hw q) (hs q)) fun H0 ι σ H D s r f => h H0 ι σ H _ s r fun ds R' A B vs C hp s1 S1 r1 => by
    obtain ⟨d1, d2, rfl, hp⟩ := hp
    cases r1 with
    | cons q1 r1 =>
      cases r1 with
      | cons q2 r1 =>
        cases r1
        exact ⟨_, _, rfl, (f.nx.step s1).now S1 hp (((r.step s1).set q1 i).set q2 j)⟩

/-! loops -/
/-- for tg in a list that stays as it is -/
theorem ds_forL {iter : Expr} {body : List Stmt} (Fm : Fam F K mg N)
    (h : DE F K iter ρ R fun d R1 => ∃ (ds : List DL.D) (J : Nat → Env → Rs → Prop), d = .lst ds ∧ J 0 ρ R1 ∧ (∀ i x ρ' R', ds[i]? = some x → J i ρ' R' → DG F K tg x ρ' R' fun ρ2 R2 => DSs F K body ρ2 R2 { nx := J (i + 1), ct := J (i + 1), bk := E.nx, rt := E.rt }) ∧ (∀ ρ' R', J ds.length ρ' R' → E.nx ρ' R'))
    (hs : ∀ i x, foldedSetIterable iter (F i).env x = pure x := by intro _ _; rfl) : DS F K (.For tg iter body [] pos) ρ R E :=
  DS.of (t := tFor (iList K (UE F iter)) (UG F tg) (USs F body)) (fun i => ps_for (Fm.pass i) (Fm.calm i) (Fm.K i ▸ pi_list (pe_u i)) ⟨fun pins s σ H v u Q I r h => by
      obtain ⟨t, ht, q⟩ := h
      exact (ht i).run pins s σ H v u Q I r q⟩ (pss_u i) (hs i)) fun H0 ι σ H D s r f => h H0 ι σ H _ s r fun d R1 A B v C hp s1 S1 r1 => by
    obtain ⟨ds, J, rfl, h0, hstep, hend⟩ := hp
    cases r1 with
    | @lst a xs _ ha ra =>
      refine ⟨a, rfl, ⟨xs, .inl (.inl (S1.ex _ _ ha))⟩, for_list (xs := xs) (fun i σ' H' => ∃ ρ' R' H0' ι', J i ρ' R' ∧ Step A B C H0' ι' H' ∧ SR K H0' ι' R' H' ∧ EnvR K H0' ι' σ' ρ') ⟨ρ, R1, A, B, h0, Step.refl _ _ _, S1, r.step s1⟩ (fun i σ' H' hi hJ => ?_) (fun i x σ' H' hx hJ => ?_) fun σ' H' hJ => ?_⟩
      · obtain ⟨ρ', R', H0', ι', hj, st, S', r'⟩ := hJ
        exact .inl (.inl (S'.ex _ _ (st.ex _ _ ha)))
      · obtain ⟨ρ', R', H0', ι', hj, st, S', r'⟩ := hJ
        obtain ⟨dx, hd, rx⟩ := ra.getV hx
        exact hstep i dx ρ' R' hd hj H0' ι' σ' H' x _ S' r' (rx.step st) fun ρ2 R2 A2 B2 σ2 C2 hp2 s2 S2 r2 => hp2 A2 B2 σ2 C2 _ S2 r2
          ⟨fun ρ3 R3 A3 B3 σ3 C3 hp3 s3 S3 r3 => ⟨ρ3, R3, A3, B3, hp3, (st.trans s2).trans s3, S3, r3⟩, (((f.rt.step s1).step st).step s2), (((f.nx.step s1).step st).step s2), fun ρ3 R3 A3 B3 σ3 C3 hp3 s3 S3 r3 => ⟨ρ3, R3, A3, B3, hp3, (st.trans s2).trans s3, S3, r3⟩⟩
      · obtain ⟨ρ', R', H0', ι', hj, st, S', r'⟩ := hJ
        rw [ra.length] at hj
        exact ((f.nx.step s1).step st).now S' (hend ρ' R' hj) r'
/-- for tg in a tuple -/
theorem ds_forT {iter : Expr} {body : List Stmt} (Fm : Fam F K mg N)
    (h : DE F K iter ρ R fun d R1 => ∃ (ds : List DL.D) (J : Nat → Env → Rs → Prop), d = .tup ds ∧ J 0 ρ R1 ∧ (∀ i x ρ' R', ds[i]? = some x → J i ρ' R' → DG F K tg x ρ' R' fun ρ2 R2 => DSs F K body ρ2 R2 { nx := J (i + 1), ct := J (i + 1), bk := E.nx, rt := E.rt }) ∧ (∀ ρ' R', J ds.length ρ' R' → E.nx ρ' R'))
    (hs : ∀ i x, foldedSetIterable iter (F i).env x = pure x := by intro _ _; rfl) : DS F K (.For tg iter body [] pos) ρ R E :=
  DS.of (t := tFor (iTup K (UE F iter)) (UG F tg) (USs F body)) (fun i => ps_for (Fm.pass i) (Fm.calm i) (Fm.K i ▸ pi_tup (pe_u i)) ⟨fun pins s σ H v u Q I r h => by
      obtain ⟨t, ht, q⟩ := h
      exact (ht i).run pins s σ H v u Q I r q⟩ (pss_u i) (hs i)) fun H0 ι σ H D s r f => h H0 ι σ H _ s r fun d R1 A B v C hp s1 S1 r1 => by
    obtain ⟨ds, J, rfl, h0, hstep, hend⟩ := hp
    cases r1 with
    | @tup a xs _ ha ra =>
      refine ⟨a, rfl, ⟨xs, (ha.mono S1.ex).sqT⟩, for_tup (xs := xs) (fun i σ' H' => ∃ ρ' R' H0' ι', J i ρ' R' ∧ Step A B C H0' ι' H' ∧ SR K H0' ι' R' H' ∧ EnvR K H0' ι' σ' ρ') ⟨ρ, R1, A, B, h0, Step.refl _ _ _, S1, r.step s1⟩ (fun i σ' H' hi hJ => ?_) (fun i x σ' H' hx hJ => ?_) fun σ' H' hJ => ?_⟩
      · obtain ⟨ρ', R', H0', ι', hj, st, S', r'⟩ := hJ
        exact (ha.mono (st.ex.trans S'.ex)).sqT
      · obtain ⟨ρ', R', H0', ι', hj, st, S', r'⟩ := hJ
        obtain ⟨dx, hd, rx⟩ := ra.getV hx
        exact hstep i dx ρ' R' hd hj H0' ι' σ' H' x _ S' r' (rx.step st) fun ρ2 R2 A2 B2 σ2 C2 hp2 s2 S2 r2 => hp2 A2 B2 σ2 C2 _ S2 r2
          ⟨fun ρ3 R3 A3 B3 σ3 C3 hp3 s3 S3 r3 => ⟨ρ3, R3, A3, B3, hp3, (st.trans s2).trans s3, S3, r3⟩, (((f.rt.step s1).step st).step s2), (((f.nx.step s1).step st).step s2), fun ρ3 R3 A3 B3 σ3 C3 hp3 s3 S3 r3 => ⟨ρ3, R3, A3, B3, hp3, (st.trans s2).trans s3, S3, r3⟩⟩
      · obtain ⟨ρ', R', H0', ι', hj, st, S', r'⟩ := hJ
        rw [ra.length] at hj
        exact ((f.nx.step s1).step st).now S' (hend ρ' R' hj) r'
/-- for x in range(n), range(m, n) -/
theorem ds_forR1 {body : List Stmt} {pr pc : Pos} (Fm : Fam F K mg N) (hg : ∀ i, Gl (F i) "range") (hm : mg "range" = none)
    (h : DE F K a ρ R fun d R1 => ∃ (n : Int) (J : Nat → Env → Rs → Prop), d = .int n ∧ (-(2 ^ 62) ≤ n ∧ n < 2 ^ 62) ∧ J 0 ρ R1 ∧ (∀ i ρ' R', i < n.toNat → J i ρ' R' → DG F K tg (.int (i : Int)) ρ' R' fun ρ2 R2 => DSs F K body ρ2 R2 { nx := J (i + 1), ct := J (i + 1), bk := E.nx, rt := E.rt }) ∧ (∀ ρ' R', J n.toNat ρ' R' → E.nx ρ' R'))
    (hst : ∀ i, starEach [a] (F i).env = [(false, eval a (F i).env)] := by intro _; rfl) (hs : ∀ i x, foldedSetIterable (.Call (.Name "range" pr) [a] [] pc) (F i).env x = pure x := by intro _ _; rfl) : DS F K (.For tg (.Call (.Name "range" pr) [a] [] pc) body [] pos) ρ R E :=
  DS.of (t := tFor (iRng1 (tCons (UE F a) tNil)) (UG F tg) (USs F body)) (fun i => ps_for (Fm.pass i) (Fm.calm i) (pi_range1 (hg i) (by rw [Fm.mg i]; exact hm) (pa_cons (pe_u i) pa_nil (hst i)) (hst i)) ⟨fun pins s σ H v u Q I r h => by
      obtain ⟨t, ht, q⟩ := h
      exact (ht i).run pins s σ H v u Q I r q⟩ (pss_u i) (hs i)) fun H0 ι σ H D s r f => h H0 ι σ H _ s r fun d R1 A B v C hp s1 S1 r1 => by
    obtain ⟨n, J, rfl, hn, h0, hstep, hend⟩ := hp
    cases r1
    refine ⟨n, rfl, hn.1, hn.2, for_range (lo := 0) (n := n.toNat) (fun i σ' H' => ∃ ρ' R' H0' ι', J i ρ' R' ∧ Step A B C H0' ι' H' ∧ SR K H0' ι' R' H' ∧ EnvR K H0' ι' σ' ρ') ⟨ρ, R1, A, B, h0, Step.refl _ _ _, S1, r.step s1⟩ (fun i σ' H' hi hJ => ?_) fun σ' H' hJ => ?_⟩
    · obtain ⟨ρ', R', H0', ι', hj, st, S', r'⟩ := hJ
      have e0 : (0 : Int) + (i : Int) = (i : Int) := Int.zero_add _
      rw [e0]
      exact hstep i ρ' R' hi hj H0' ι' σ' H' _ _ S' r' (.int _) fun ρ2 R2 A2 B2 σ2 C2 hp2 s2 S2 r2 => hp2 A2 B2 σ2 C2 _ S2 r2
          ⟨fun ρ3 R3 A3 B3 σ3 C3 hp3 s3 S3 r3 => ⟨ρ3, R3, A3, B3, hp3, (st.trans s2).trans s3, S3, r3⟩, (((f.rt.step s1).step st).step s2), (((f.nx.step s1).step st).step s2), fun ρ3 R3 A3 B3 σ3 C3 hp3 s3 S3 r3 => ⟨ρ3, R3, A3, B3, hp3, (st.trans s2).trans s3, S3, r3⟩⟩
    · obtain ⟨ρ', R', H0', ι', hj, st, S', r'⟩ := hJ
      exact ((f.nx.step s1).step st).now S' (hend ρ' R' hj) r'
theorem ds_forR2 {body : List Stmt} {pr pc : Pos} (Fm : Fam F K mg N) (hg : ∀ i, Gl (F i) "range") (hm : mg "range" = none)
    (h : DA F K [a, b] ρ R fun ds R1 => ∃ (lo n : Int) (J : Nat → Env → Rs → Prop), ds = [.int lo, .int n] ∧ (-(2 ^ 62) ≤ lo ∧ lo < 2 ^ 62 ∧ -(2 ^ 62) ≤ n ∧ n < 2 ^ 62) ∧ J 0 ρ R1 ∧ (∀ i ρ' R', i < (n - lo).toNat → J i ρ' R' → DG F K tg (.int (lo + (i : Int))) ρ' R' fun ρ2 R2 => DSs F K body ρ2 R2 { nx := J (i + 1), ct := J (i + 1), bk := E.nx, rt := E.rt }) ∧ (∀ ρ' R', J (n - lo).toNat ρ' R' → E.nx ρ' R'))
    (hst : ∀ i, starEach [a, b] (F i).env = [(false, eval a (F i).env), (false, eval b (F i).env)] := by intro _; rfl) (hst2 : ∀ i, starEach [b] (F i).env = [(false, eval b (F i).env)] := by intro _; rfl) (hs : ∀ i x, foldedSetIterable (.Call (.Name "range" pr) [a, b] [] pc) (F i).env x = pure x := by intro _ _; rfl) :
    DS F K (.For tg (.Call (.Name "range" pr) [a, b] [] pc) body [] pos) ρ R E :=
  DS.of (t := tFor (iRng2 (UA F [a, b])) (UG F tg) (USs F body)) (fun i => ps_for (Fm.pass i) (Fm.calm i) (pi_range2 (hg i) (by rw [Fm.mg i]; exact hm) (pa_u i) (hst i) (hst2 i)) ⟨fun pins s σ H v u Q I r h => by
      obtain ⟨t, ht, q⟩ := h
      exact (ht i).run pins s σ H v u Q I r q⟩ (pss_u i) (hs i)) fun H0 ι σ H D s r f => h H0 ι σ H _ s r fun ds R1 A B vs C hp s1 S1 r1 => by
    obtain ⟨lo, n, J, rfl, hn, h0, hstep, hend⟩ := hp
    cases r1 with
    | cons q1 r1 =>
      cases r1 with
      | cons q2 r1 =>
        cases r1
        cases q1
        cases q2
        refine ⟨lo, n, rfl, hn, for_range (lo := lo) (n := (n - lo).toNat) (fun i σ' H' => ∃ ρ' R' H0' ι', J i ρ' R' ∧ Step A B C H0' ι' H' ∧ SR K H0' ι' R' H' ∧ EnvR K H0' ι' σ' ρ') ⟨ρ, R1, A, B, h0, Step.refl _ _ _, S1, r.step s1⟩ (fun i σ' H' hi hJ => ?_) fun σ' H' hJ => ?_⟩
        · obtain ⟨ρ', R', H0', ι', hj, st, S', r'⟩ := hJ
          exact hstep i ρ' R' hi hj H0' ι' σ' H' _ _ S' r' (.int _) fun ρ2 R2 A2 B2 σ2 C2 hp2 s2 S2 r2 => hp2 A2 B2 σ2 C2 _ S2 r2
              ⟨fun ρ3 R3 A3 B3 σ3 C3 hp3 s3 S3 r3 => ⟨ρ3, R3, A3, B3, hp3, (st.trans s2).trans s3, S3, r3⟩, (((f.rt.step s1).step st).step s2), (((f.nx.step s1).step st).step s2), fun ρ3 R3 A3 B3 σ3 C3 hp3 s3 S3 r3 => ⟨ρ3, R3, A3, B3, hp3, (st.trans s2).trans s3, S3, r3⟩⟩
        · obtain ⟨ρ', R', H0', ι', hj, st, S', r'⟩ := hJ
          exact ((f.nx.step s1).step st).now S' (hend ρ' R' hj) r'
/-- while, by a word and a measure -/
theorem ds_while {c : Expr} {body : List Stmt} (Fm : Fam F K mg N) (J : Nat → Env → Rs → Prop) (m0 : Nat) (h0 : J m0 ρ R)
    (h : ∀ m ρ' R', J m ρ' R' → DT F K c ρ' R' fun k R2 => (k = true → DSs F K body ρ' R2 { nx := fun ρ3 R3 => ∃ m', m' < m ∧ J m' ρ3 R3, ct := fun ρ3 R3 => ∃ m', m' < m ∧ J m' ρ3 R3, bk := E.nx, rt := E.rt }) ∧ (k = false → E.nx ρ' R2)) : DS F K (.While c body [] pos) ρ R E :=
  DS.of (t := tWhile (UT F c) (USs F body)) (fun i => ps_while (Fm.pass i) (pt_u i) (pss_u i)) fun H0 ι σ H D s r f =>
    ⟨fun m σ' H' => ∃ ρ' R' H0' ι', J m ρ' R' ∧ Step H0 ι H H0' ι' H' ∧ SR K H0' ι' R' H' ∧ EnvR K H0' ι' σ' ρ', ⟨m0, ρ, R, H0, ι, h0, Step.refl _ _ _, s, r⟩, fun m σ' H' ⟨ρ', R', H0', ι', hj, st, S', r'⟩ =>
      h m ρ' R' hj H0' ι' σ' H' _ S' r' fun k R2 A B C hk s1 S1 => by
        cases k with
        | true =>
          refine ⟨fun σ2 H2 => ∃ m', m' < m ∧ ∃ ρ' R' H0' ι', J m' ρ' R' ∧ Step H0 ι H H0' ι' H2 ∧ SR K H0' ι' R' H2 ∧ EnvR K H0' ι' σ2 ρ', fun σ2 H2 z => z, ?_⟩
          exact hk.1 rfl A B σ' C _ S1 (r'.step s1) ⟨fun ρ3 R3 A3 B3 σ3 C3 hp3 s3 S3 r3 => by
              obtain ⟨m', hm, hj'⟩ := hp3
              exact ⟨m', hm, ρ3, R3, A3, B3, hj', (st.trans s1).trans s3, S3, r3⟩, ((f.rt.step st).step s1), ((f.nx.step st).step s1), fun ρ3 R3 A3 B3 σ3 C3 hp3 s3 S3 r3 => by
              obtain ⟨m', hm, hj'⟩ := hp3
              exact ⟨m', hm, ρ3, R3, A3, B3, hj', (st.trans s1).trans s3, S3, r3⟩⟩
        | false => exact ((f.nx.step st).step s1).now S1 (hk.2 rfl) (r'.step s1)⟩
end
end DL
namespace DL
open PySem PySem.Spec PyProof.Rows L2

/-! ### what a def promises, over data -/
abbrev PreD := List D → Rs → Prop
abbrev PostD := List D → Rs → D → Rs → Prop
def spD (K : PySem.W.Frag) (n : Nat) (A : PreD) (B : PostD) (vs : List V) (H : Hp) (Q : VK) : Prop := vs.length = n ∧ ∃ (H0 : Hp) (ι : List Addr) (R : Rs) (ds : List D), SR K H0 ι R H ∧ RpAll K H0 ι vs ds ∧ A ds R ∧
  ∀ d R' H0' ι' v H', B ds R d R' → Step H0 ι H H0' ι' H' → SR K H0' ι' R' H' → Rp K H0' ι' v d → Q v H'
/-- the text as it stands behind the top -/
structure World0 where
  P : Program
  w : World
  K : PySem.W.Frag
  mg : Str → Option Value
  base : Heap
/-- a def's object keeps its promise, where no repr is under way -/
def FnG (W : World0) (k : Nat) (f : Addr) (fd : FuncData) (ps : List Str) (n : Nat) (A : PreD) (B : PostD) : Prop :=
  ∀ (Ar : Around) (outer : List PySem.Env) (s : Shared) (H : Hp) (args : Args) (us : List Value) (vs : List V) (Q : VK), Room k Ar → Ar.guards = some [] → Env0 W.P W.w W.K W.mg W.base Ar outer s H →
    BindsTo s fd args (ps.zip us) → Vals vs us → spD W.K n A B vs H Q → codeAny (model W.P W.w) Ar (.call (.ref f) args) (CR CX0 outer W.P W.w H s Q E0) s
/-- a def that may be called -/
def Cal (W : World0) (k : Nat) (x : Str) (n : Nat) (A : PreD) (B : PostD) (ks : List Str) : Prop :=
  ∃ (f : Addr) (fd : FuncData), FnG W k f fd ks n A B ∧ ks.length = n ∧ W.mg x = some (.ref f) ∧ PySem.W.keepIn W.K (.ref f) = true ∧ (∃ o, W.K.lookup f = some o ∧ o.data = .func fd) ∧
    (∀ (s : Shared) (us : List Value), us.length = n → BindsTo s fd ⟨us, []⟩ (ks.zip us))
theorem Cal.mono {W : World0} {j k : Nat} {x : Str} {n : Nat} {A : PreD} {B : PostD} {ks : List Str} (c : Cal W j x n A B ks) (h : j ≤ k) : Cal W k x n A B ks := by
  obtain ⟨f, fd, F, r⟩ := c
  exact ⟨f, fd, fun Ar outer s H args us vs Q hr => F Ar outer s H args us vs Q (hr.mono h), r⟩
/-- a family in a world, with room for calls -/
structure FamW {I : Type} (F : I → Cx) (W : World0) (N : List Str) (k : Nat) : Prop extends Fam F W.K W.mg N where
  P : ∀ i, (F i).prog = W.P
  w : ∀ i, (F i).w = W.w
  base : ∀ i, (F i).base = W.base
  rm : ∀ i, Room k (F i).A
  gd : ∀ i, (F i).A.guards = some []
/-- the body of a def -/
abbrev bodyF (W : World0) (N : List Str) (qual : Str) (scope : Scope) (f : Addr) (cd : Value) (A : Around) (outer : List PySem.Env) (s : Shared) (H : Hp) (E : XK) : Unit → Cx := fun _ => (cxOf CX0 W.P W.w W.K W.mg W.base N qual scope f cd A outer s H E).nox
theorem bodyFam {W : World0} {N ps : List Str} {qual : Str} {scope : Scope} {f : Addr} {cd : Value} {A : Around} {outer : List PySem.Env} {s : Shared} {H : Hp} {E : XK} {k : Nat} (S : FnScope N ps scope) (hr : Room k (A.deeper (envOfC qual scope s.heap.objs.size f cd))) (hg : A.guards = some []) :
    FamW (bodyF W N qual scope f cd A outer s H E) W N k where
  nd := S.nd
  pass := fun _ => PassesOwn.never
  K := fun _ => rfl
  mg := fun _ => rfl
  N := fun _ => rfl
  calm := fun _ => rfl
  un := fun _ => by
    have h := hr.un
    show (A.deeper (envOfC qual scope s.heap.objs.size f cd)).units + 200 < cLine
    omega
  P := fun _ => rfl
  w := fun _ => rfl
  base := fun _ => rfl
  rm := fun _ => hr
  gd := fun _ => hg
def startD (N : List Str) (ds : List D) : Env := ds.map some ++ List.replicate (N.length - ds.length) none
theorem start_env {K : PySem.W.Frag} {H0 : Hp} {ι : List Addr} {N : List Str} {vs : List V} {ds : List D} (r : RpAll K H0 ι vs ds) : EnvR K H0 ι (L2.start N vs) (startD N ds) := by
  refine ⟨by unfold L2.start startD; simp [r.length], fun i d e => ?_⟩
  unfold startD at e
  by_cases hi : i < ds.length
  · rw [List.getElem?_append_left (by simpa using hi), List.getElem?_map] at e
    have e2 : ds[i]? = some d := by
      cases q : ds[i]? with
      | none => rw [q] at e; cases e
      | some x => rw [q] at e; cases e; rfl
    obtain ⟨v, h1, h2⟩ := r.get e2
    refine ⟨v, ?_, h2⟩
    unfold L2.start
    rw [List.getElem?_append_left (by simpa [r.length] using hi), List.getElem?_map, h1]
    rfl
  · rw [List.getElem?_append_right (by simpa using hi), List.getElem?_replicate] at e
    split at e <;> cases e
/-- one more place -/
theorem SR.plus {K : PySem.W.Frag} {H0 H : Hp} {ι : List Addr} {R : Rs} {p : Addr} {xs : List V} {ds : List D} (s : SR K H0 ι R H) (hp : p ∉ ι) (h0 : H0 p = none) (hx : H p = some (.lst xs)) (rx : RpAll K H0 ι xs ds) : SR K H0 (ι ++ [p]) (R ++ [.lst ds]) H := by
  have pr : Pre ι (ι ++ [p]) := Pre.app _ _
  refine ⟨s.ex, by simp [s.len], ?_, fun a m => ?_, fun k a q e1 e2 => ?_⟩
  · rw [List.nodup_append]
    exact ⟨s.nd, by simp, fun a ha b hb => by simp only [List.mem_singleton] at hb; subst hb; exact fun z => hp (z ▸ ha)⟩
  · rcases List.mem_append.mp m with m | m
    · exact s.live a m
    · simp only [List.mem_singleton] at m
      subst m
      rw [hx]
      exact fun z => nomatch z
  · by_cases hk : k < ι.length
    · rw [List.getElem?_append_left hk] at e1
      rw [List.getElem?_append_left (by rw [← s.len]; exact hk)] at e2
      exact (s.at_ k a q e1 e2).to id (fun _ z => z) (Same.refl _) pr
    · have hk2 : k = ι.length := by
        have := (List.getElem?_eq_some_iff.mp e1).1
        simp at this
        omega
      subst hk2
      rw [List.getElem?_append_right (Nat.le_refl _)] at e1
      rw [List.getElem?_append_right (by rw [s.len]; exact Nat.le_refl _)] at e2
      simp only [Nat.sub_self, List.getElem?_cons_zero, Option.some.injEq] at e1
      rw [s.len, Nat.sub_self] at e2
      simp only [List.getElem?_cons_zero, Option.some.injEq] at e2
      subst e1 e2
      exact ⟨h0, xs, hx, rx.mono (Same.refl _) pr⟩
/-- how a def may end: no place is new; all are; one is -/
inductive RetOk (n : Nat) (B : D → Rs → Prop) (d : D) (R' : Rs) : Prop
  | cut (R2 T : Rs) : R' = R2 ++ T → R2.length = n → RsLt n R2 → D.lt n d = true → B d R2 → RetOk n B d R'
  | keep : B d R' → RetOk n B d R'
  | one (R2 T : Rs) (j : Nat) (ds : List D) : R' = R2 ++ T → R2.length = n → RsLt n R2 → T[j]? = some (.lst ds) → D.ltAll n ds = true → d = .own (n + j) → B (.own n) (R2 ++ [.lst ds]) → RetOk n B d R'
theorem RetOk.same {n : Nat} {B : D → Rs → Prop} {d : D} {R : Rs} (hl : R.length = n) (lt : RsLt n R) (hd : D.lt n d = true) (h : B d R) : RetOk n B d R := .cut R [] (by simp) hl lt hd h
theorem ret_fin {K : PySem.W.Frag} {H0 H : Hp} {ι : List Addr} {R : Rs} {B : D → Rs → Prop} {Q : VK} (hS : SR K H0 ι R H) (q : ∀ d R' H0' ι' v H', B d R' → Step H0 ι H H0' ι' H' → SR K H0' ι' R' H' → Rp K H0' ι' v d → Q v H') : Fin K H0 ι H (RetOk R.length B) Q := fun d R' H0' ι' v H' hp st S' r => by
  cases hp with
  | cut R2 T e l2 lt ld hB => exact q d R2 H0' ι v H' hB ⟨st.ex, Pre.refl _, st.keep, fun _ m => .inl m, st.frz⟩ (hS.drop S' st.pre e l2 lt) (r.cut st.pre (by rw [hS.len]; exact ld))
  | keep hB => exact q d R' H0' ι' v H' hB st S' r
  | one R2 T j ds e l2 lt hT ld hd hB =>
    subst hd
    cases r with
    | @own k p hk =>
      have hR : R'[R.length + j]? = some (.lst ds) := by
        subst e
        rw [List.getElem?_append_right (by omega), l2, Nat.add_sub_cancel_left]
        exact hT
      obtain ⟨f0, xs, hx, rx⟩ := S'.at_ _ _ _ hk hR
      have hn : p ∉ ι := fun m => by
        obtain ⟨i, hi, e2⟩ := List.mem_iff_getElem.mp m
        have e3 := st.pre i p (by rw [List.getElem?_eq_getElem hi, e2])
        have e4 := nodup_at S'.nd hk e3
        have e5 := hS.len
        omega
      have S2 := (hS.drop S' st.pre e l2 lt).plus hn f0 hx (rx.cut st.pre (by rw [hS.len]; exact ld))
      refine q (.own R.length) _ H0' (ι ++ [p]) (.ref p) H' hB ⟨st.ex, Pre.app _ _, st.keep, fun a m => ?_, st.frz⟩ S2 (.own ?_)
      · rcases List.mem_append.mp m with m | m
        · exact .inl m
        · simp only [List.mem_singleton] at m
          subst m
          exact st.new _ (List.mem_of_getElem? hk)
      · rw [← hS.len, List.getElem?_append_right (Nat.le_refl _)]; simp
theorem fn_d {W : World0} {k : Nat} {f : Addr} {x qual : Str} {params : Arguments} {body : List Stmt} {scope : Scope} {fd : FuncData} {N ps : List Str} {n : Nat} {A : PreD} {B : PostD} (F : FunD W.K x qual params body scope [] [] f fd) (S : FnScope N ps scope) (hn : ps.length = n)
    (hb : ∀ (ds : List D) (R : Rs), ds.length = n → A ds R → RsLt R.length R → D.ltAll R.length ds = true → ∀ (cd : Value) (Ar : Around) (outer : List PySem.Env) (s : Shared) (H : Hp) (E : XK), FamW (bodyF W N qual scope f cd Ar outer s H E) W N k →
      DSs (bodyF W N qual scope f cd Ar outer s H E) W.K body (startD N ds) R { nx := fun _ R' => RetOk R.length (B ds R) .non R', rt := RetOk R.length (B ds R) }) :
    FnG W (k + 1) f fd ps n A B := by
  intro Ar outer s H args us vs Q hr hg he hb2 hv h
  obtain ⟨hl, H0, ι, R, ds, hS, hR, hA, q⟩ := h
  obtain ⟨oc, od, dV, kV, doc, pm, an, cdv, ct, osl, rfl, lk, ci, _, _⟩ := F.ex
  have hin : W.K.In s.heap := fun a o e => (he.bs a o (he.mod.kin a o e)).1
  have hlen : us.length = ps.length := by
    have := hv.length
    omega
  have hnl : s.heap.NoLimit := by
    obtain ⟨mc, ⟨o, es, ep, h1, h2, h3, h4⟩, hmc⟩ := he.mod.nolimit
    exact ⟨mc, ⟨o, es, ep, (he.bs _ _ h1).1, h2, h3, h4⟩, hmc⟩
  refine Att.call_fn hin hnl lk ci (by have := hr.dp; omega) hb2 ?_ (fun s1 hc => ?_) S.co S.gen S.kind
  · rw [List.all_eq_true]
    intro y hy
    have hy2 : y.1 ∈ ps := (List.of_mem_zip hy).1
    rcases S.par y.1 hy2 with e | e <;> rw [e] <;> rfl
  · have I := inv_start (CX := CX0) (P := W.P) (w := W.w) (N := N) (E := E0) S hr.hd he (hl.trans hn.symm) hv hc
    have hr2 : Room k (Ar.deeper (envOfC qual scope s.heap.objs.size f cdv)) := ⟨hr.hd, by have := hr.dp; show Ar.depth + 1 + 3 * k + 5 < recursionLimit; omega, by have := hr.un; show Ar.units + 3 + 16 * k + 200 < cLine; omega⟩
    have Fm := bodyFam (W := W) (outer := outer) (H := H) (E := E0) S hr2 hg
    have fin := ret_fin hS q
    obtain ⟨t, ht, hq⟩ := hb ds R (hR.length.symm.trans hl) hA hS.lt (hS.len ▸ hR.lt) cdv Ar outer s H E0 Fm H0 ι (L2.start N vs) H { nx := fun _ H' => Q .non H', rt := Q } hS (start_env hR)
      ⟨fun ρ' R' H0' ι' σ' H' hp st S' r => fin .non R' H0' ι' .non H' hp st S' .non, fin, fun _ _ _ _ _ _ z => z.elim, fun _ _ _ _ _ _ z => z.elim⟩
    have fin2 : ∀ {σ' : L2.St} {H' : Hp} {s' : Shared} {v : V} {u : Value}, L2.Inv (cxOf CX0 W.P W.w W.K W.mg W.base N qual scope f cdv Ar outer s H E0) [] σ' H' s' → L2.RelV v u → Q v H' → CR CX0 outer W.P W.w H s Q E0 (.ok (.ret u)) s' := fun {σ' H' s' v u} I' r q => ⟨v, H', I'.os, I'.bare, I'.base, I'.hok, r, q⟩
    refine wpAny_mono ((PSs.nox (ht ())).run [] s1 (L2.start N vs) H _ I hq) (fun fl s' hfl => ?_) fun e s' h => h
    cases fl with
    | next =>
      obtain ⟨σ', H', I', q⟩ := hfl
      exact fin2 (v := .non) I' rfl q
    | brk =>
      obtain ⟨σ', H', I', q⟩ := hfl
      exact q.elim
    | cont =>
      obtain ⟨σ', H', I', q⟩ := hfl
      exact q.elim
    | ret u =>
      obtain ⟨v, σ', H', I', r, q⟩ := hfl
      exact fin2 I' r q
/-- names in another order -/
theorem cal_d {W : World0} {k : Nat} {x qual : Str} {params : Arguments} {body : List Stmt} {scope : Scope} {N ps : List Str} {n : Nat} {A : PreD} {B : PostD} {f : Addr} {fd : FuncData} (F : FunD W.K x qual params body scope [] [] f fd) (hm : W.mg x = some (.ref f)) (S : FnScope N ps scope) (hn : ps.length = n)
    (bd : ∀ (kV doc pm : Value) (an : Option Addr) (cdv ct : Value) (us : List Value), us.length = n → bindArgs (PySem.W.fnOf x qual params body scope .none kV doc pm an cdv ct) ⟨us, []⟩ = pure (ps.zip us))
    (hb : ∀ (ds : List D) (R : Rs), ds.length = n → A ds R → RsLt R.length R → D.ltAll R.length ds = true → ∀ (cd : Value) (Ar : Around) (outer : List PySem.Env) (s : Shared) (H : Hp) (E : XK), FamW (bodyF W N qual scope f cd Ar outer s H E) W N k →
      DSs (bodyF W N qual scope f cd Ar outer s H E) W.K body (startD N ds) R { nx := fun _ R' => RetOk R.length (B ds R) .non R', rt := RetOk R.length (B ds R) }) : Cal W (k + 1) x n A B ps := by
  have Fn := fn_d F S hn hb
  have hbA := FunD.bindsA (ps := ps) F fun kV doc pm an cdv ct us hl => bd kV doc pm an cdv ct us (hl.trans hn)
  obtain ⟨oc, od, dV, kV, doc, pm, an, cdv, ct, osl, e, lk, ci, dv, kv⟩ := F.ex
  exact ⟨f, fd, Fn, hn, hm, F.kp, ⟨_, lk, rfl⟩, fun s us hl => hbA s us (hl.trans hn.symm)⟩

section
variable {I : Type} {F : I → Cx} {W : World0} {N : List Str} {ρ : Env} {R R' : Rs} {Φ : Φ1} {e a b : Expr} {es : List Expr} {pos p apos : Pos} {j : Nat}
/-- what a call comes to -/
theorem run_g {X : Cx} {W : World0} {k n : Nat} {f : Addr} {fd : FuncData} {ks : List Str} {A : PreD} {B : PostD} {pins : List (Addr × Obj)} {σ : L2.St} {H : Hp} {s : Shared} {Q : VK} {args : Args} {us : List Value} {vs : List V} (F : FnG W k f fd ks n A B)
    (hP : X.prog = W.P) (hw : X.w = W.w) (hK : X.K = W.K) (hm : X.mg = W.mg) (hb : X.base = W.base) (hr : Room k X.A) (hg : X.A.guards = some []) (I : L2.Inv X pins σ H s) (b : BindsTo s fd args (ks.zip us)) (hv : Vals vs us) (h : spD W.K n A B vs H Q) :
    wpAny (model X.prog X.w) X.A (PySem.call (.ref f) args.pos args.kw) (EP X pins σ Q) X.xe s := by
  have e0 := I.env0
  rw [hP, hw, hK, hm, hb] at e0
  have c := F X.A X.stack s H args us vs Q hr hg e0 b hv h
  rw [hP, hw]
  refine wpAny_call (codeAny_mono c fun r s' hc => ?_)
  cases r with
  | error e => exact hc.elim
  | ok fl =>
    cases fl with
    | ret u =>
      obtain ⟨v, H', h1, h2, h3, h4, h5, h6⟩ := hc
      refine ⟨v, H', I.call' h1 h3 (by rw [hP, hw]; exact h4) h2 (fun b hb => by cases hb), h5, h6⟩
    | next => exact hc.elim
    | brk => exact hc.elim
    | cont => exact hc.elim
/-- f(..) -/
theorem de_call {x : Str} {k n : Nat} {A : PreD} {B : PostD} {ks : List Str} (C : Cal W k x n A B ks) (Fm : FamW F W N j) (hk : k ≤ j) (hg : ∀ i, Gl (F i) x) (h : DA F W.K (e :: es) ρ R fun ds R1 => ds.length = n ∧ A ds R1 ∧ ∀ d R2, B ds R1 d R2 → Φ d R2)
    (hst : ∀ i, starEach (e :: es) (F i).env = (false, eval e (F i).env) :: starEach es (F i).env := by intro _; rfl) (hpl : ∀ i, (backTo pos (starEach es (F i).env)).any (·.1) = false := by intro _; rfl) (hd : (x == ("__debug__" : Str)) = false := by decide) : DE F W.K (.Call (.Name x p) (e :: es) [] pos) ρ R Φ := by
  obtain ⟨f, fd, Fn, hks, gm, kp, ⟨o, lk, fo⟩, bd⟩ := C
  refine DE.of (t := fun σ H Q => UA F (e :: es) σ H fun vs H1 => spD W.K n A B vs H1 Q) (fun i => ⟨fun pins s σ H Q I h => ?_⟩) fun H0 ι σ H Q s r f => h H0 ι σ H _ s r fun ds R1 H01 ι1 vs H1 hb s1 S1 r1 => ?_
  · have hK := Fm.toFam.K i
    refine wpAny_Call_NameR (wpAny_mono ((pe_glob (v := .ref f) (hg i) (by rw [Fm.mg i]; exact gm) rfl hd).run pins s σ H (fun v H' => v = .ref f ∧ H' = H) I ⟨rfl, rfl⟩) (fun u s1 hu => ?_) fun _ _ h => h)
    obtain ⟨v, H1, I1, rv, rfl, rfl⟩ := hu
    cases rv
    refine callWith_def_at (h' := s1.heap) (o := o) (I1.kIn f o (by rw [hK]; exact lk)) fo (wpAny_mono ((pa_u (F := F) (es := e :: es) i).run pos pins s1 σ H1 _ I1 h) (fun us s2 ha => ?_) fun _ _ h => h) (hst i)
    obtain ⟨vs, H2, I2, rv, hq⟩ := ha
    refine ⟨I2.kIn f o (by rw [hK]; exact lk), ?_⟩
    have hl : us.length = n := rv.length.symm.trans hq.1
    exact run_g (args := ⟨us, []⟩) Fn (Fm.P i) (Fm.w i) hK (Fm.mg i) (Fm.base i) ((Fm.rm i).mono hk) (Fm.gd i) I2 (bd s2 us hl) rv hq
  · exact ⟨r1.length.trans hb.1, H01, ι1, R1, ds, S1, r1, hb.2.1, fun d R2 H02 ι2 v H2 hB st S2 rv => (f.step s1) d R2 H02 ι2 v H2 (hb.2.2 d R2 hB) st S2 rv⟩

/-! calls by names alone -/
def flipB {α : Type} (b : Bool) (l : List α) : List α := if b then l.reverse else l
/-- the def x may be called by the names ns, which stand in the order of its parameters, or turned about -/
def KwOk (W : World0) (x : Str) (b : Bool) (ns ks : List Str) : Prop := ∀ (f : Addr) (fd : FuncData) (o : Obj), W.mg x = some (.ref f) → W.K.lookup f = some o → o.data = .func fd →
  ∀ (s : Shared) (ws : List Value), ws.length = ns.length → BindsTo s fd ⟨[], ns.zip ws⟩ (ks.zip (flipB b ws))
theorem kw_of {W : World0} {x qual : Str} {params : Arguments} {body : List Stmt} {scope : Scope} {f : Addr} {fd : FuncData} {b : Bool} {ns ks : List Str} (F : FunD W.K x qual params body scope [] [] f fd) (hm : W.mg x = some (.ref f))
    (bd : ∀ (kV doc pm : Value) (an : Option Addr) (cdv ct : Value) (ws : List Value), ws.length = ns.length → bindArgs (PySem.W.fnOf x qual params body scope .none kV doc pm an cdv ct) ⟨[], ns.zip ws⟩ = pure (ks.zip (flipB b ws))) : KwOk W x b ns ks := fun f' fd' o' h1 h2 h3 s ws hl => by
  obtain ⟨oc, od, dV, kV, doc, pm, an, cdv, ct, osl, e, lk, ci, dv, kv⟩ := F.ex
  rw [hm] at h1
  cases h1
  rw [lk] at h2
  cases h2
  cases h3
  have dn : dV = .none := by
    rcases dv with ⟨_, e⟩ | ⟨n, _⟩
    · exact e
    · exact absurd rfl n
  subst dn e
  intro M Ar E Q q
  rw [bd kV doc pm an cdv ct ws hl]
  exact wpAny_pure q
def UK {I : Type} (F : I → Cx) (ks : List Keyword) : TA := fun σ H Q => ∃ t : TA, (∀ i, PK (F i) ks t) ∧ t σ H Q
theorem pk_u {I : Type} {F : I → Cx} {ks : List Keyword} (i : I) : PK (F i) ks (UK F ks) := ⟨fun pos pins s σ H Q I h => by
  obtain ⟨t, ht, q⟩ := h
  exact (ht i).run pos pins s σ H Q I q⟩
def DK {I : Type} (F : I → Cx) (K : PySem.W.Frag) (ks : List Keyword) (ρ : Env) (R : Rs) (Φ : List D → Rs → Prop) : Prop := ∀ (H0 : Hp) (ι : List Addr) (σ : L2.St) (H : Hp) (Q : List V → Hp → Prop), SR K H0 ι R H → EnvR K H0 ι σ ρ → FinA K H0 ι H Φ Q → UK F ks σ H Q
section
variable {K : PySem.W.Frag} {Φ : List D → Rs → Prop} {kws : List Keyword} {kpos : Pos} {nm : Option Str}
theorem dk_nil (h : Φ [] R) : DK F K [] ρ R Φ := fun H0 ι σ H Q s r f => ⟨tNil, fun _ => pk_nil, f [] R H0 ι [] H h (Step.refl _ _ _) s .nil⟩
theorem dk_cons (h : DE F K e ρ R fun x R1 => DK F K kws ρ R1 fun xs R2 => Φ (x :: xs) R2) : DK F K (⟨nm, e, kpos⟩ :: kws) ρ R Φ :=
  fun H0 ι σ H Q s r f => ⟨tCons (UE F e) (UK F kws), fun i => pk_cons (pe_u i) (pk_u i), h H0 ι σ H _ s r fun d R1 A B v C hb s1 S1 r1 =>
    hb A B σ C _ S1 (r.step s1) fun ds R2 A2 B2 vs C2 hd s2 S2 r2 => f _ R2 A2 B2 _ C2 hd (s1.trans s2) S2 (.cons (r1.step s2) r2)⟩
end
theorem vals_append : ∀ {xs ys : List V} {us ws : List Value}, Vals xs us → Vals ys ws → Vals (xs ++ ys) (us ++ ws)
  | _, _, _, _, .nil, s => s
  | _, _, _, _, .cons r t, s => .cons r (vals_append t s)
theorem vals_reverse : ∀ {vs : List V} {us : List Value}, Vals vs us → Vals vs.reverse us.reverse
  | _, _, .nil => .nil
  | _, _, .cons r t => by
    rw [List.reverse_cons, List.reverse_cons]
    exact vals_append (vals_reverse t) (.cons r .nil)
theorem flip_vals {vs : List V} {us : List Value} (h : Vals vs us) (b : Bool) : Vals (flipB b vs) (flipB b us) := by
  cases b with
  | false => exact h
  | true => exact vals_reverse h
theorem flip_rp {K : PySem.W.Frag} {H : Hp} {ι : List Addr} {vs : List V} {ds : List D} (h : RpAll K H ι vs ds) (b : Bool) : RpAll K H ι (flipB b vs) (flipB b ds) := by
  cases b with
  | false => exact h
  | true => exact h.reverse
theorem flip_len {α : Type} (b : Bool) (l : List α) : (flipB b l).length = l.length := by cases b <;> simp [flipB]
theorem de_callK {x : Str} {k n : Nat} {A : PreD} {B : PostD} {ks ns : List Str} {b : Bool} {kws : List Keyword} (C : Cal W k x n A B ks) (Kw : KwOk W x b ns ks) (hn : ns.length = n) (Fm : FamW F W N j) (hk : k ≤ j) (hg : ∀ i, Gl (F i) x)
    (h : DK F W.K kws ρ R fun ds R1 => ds.length = n ∧ A (flipB b ds) R1 ∧ ∀ d R2, B (flipB b ds) R1 d R2 → Φ d R2)
    (ha : ∀ i, ((backToKw pos (keywordEach kws (F i).env)).all fun x => x.1.isSome) = true := by intro _; rfl) (hns : ∀ i, List.filterMap (fun x => x.1) (backToKw pos (keywordEach kws (F i).env)) = ns := by intro _; rfl) (hd : (x == ("__debug__" : Str)) = false := by decide) : DE F W.K (.Call (.Name x p) [] kws pos) ρ R Φ := by
  obtain ⟨f, fd, Fn, hks, gm, kp, ⟨o, lk, fo⟩, bd⟩ := C
  refine DE.of (t := fun σ H Q => UK F kws σ H fun vs H1 => spD W.K n A B (flipB b vs) H1 Q) (fun i => ⟨fun pins s σ H Q I h => ?_⟩) fun H0 ι σ H Q s r f => h H0 ι σ H _ s r fun ds R1 H01 ι1 vs H1 hb s1 S1 r1 => ?_
  · have hK := Fm.toFam.K i
    refine wpAny_Call_Name_kw (wpAny_mono ((pe_glob (v := .ref f) (hg i) (by rw [Fm.mg i]; exact gm) rfl hd).run pins s σ H (fun v H' => v = .ref f ∧ H' = H) I ⟨rfl, rfl⟩) (fun u s1 hu => ?_) fun _ _ h => h)
    obtain ⟨v, H1, I1, rv, rfl, rfl⟩ := hu
    cases rv
    refine callWith_function_kw (o := o) (fd := fd) (evalArgs_kw2_nil (ha i) (wpAny_mono ((pk_u (F := F) (ks := kws) i).run pos pins s1 σ H1 _ I1 h) (fun us s2 hq => ?_) fun _ _ h => h))
    obtain ⟨vs, H2, I2, rv, hq⟩ := hq
    refine ⟨⟨I2.kIn f o (by rw [hK]; exact lk), fo⟩, ?_⟩
    have hl : us.length = ns.length := by
      have e1 := hq.1
      rw [flip_len] at e1
      have e2 := rv.length
      omega
    have q := run_g (args := ⟨[], ns.zip us⟩) Fn (Fm.P i) (Fm.w i) hK (Fm.mg i) (Fm.base i) ((Fm.rm i).mono hk) (Fm.gd i) I2 (Kw f fd o gm lk fo s2 us hl) (flip_vals rv b) hq
    rw [hns i]
    exact q
  · exact ⟨by rw [flip_len]; exact r1.length.trans hb.1, H01, ι1, R1, flipB b ds, S1, flip_rp r1 b, hb.2.1, fun d R2 H02 ι2 v H2 hB st S2 rv => (f.step s1) d R2 H02 ι2 v H2 (hb.2.2 d R2 hB) st S2 rv⟩
/-! a place given up -/
theorem DE.frz {K : PySem.W.Frag} (h : DE F K e ρ R fun d R' => ∃ k ds, d = .own k ∧ R'[k]? = some (.lst ds) ∧ Φ (.lst ds) (R'.set k .gone)) : DE F K e ρ R Φ := fun H0 ι σ H Q s r f => h H0 ι σ H Q s r fun d R' A B v C hp s1 S1 r1 => by
  obtain ⟨k, ds, rfl, hk, hp⟩ := hp
  cases r1 with
  | own hp2 =>
    obtain ⟨A', S2, s2, r2⟩ := S1.freeze hp2 hk
    exact f (.lst ds) _ A' B _ C hp (s1.trans s2) S2 r2
theorem ds_retF {K : PySem.W.Frag} {E : DEnds} (h : DE F K e ρ R fun d R' => ∃ k ds, d = .own k ∧ R'[k]? = some (.lst ds) ∧ E.rt (.lst ds) (R'.set k .gone)) : DS F K (.Return (some e) pos) ρ R E := ds_ret (DE.frz h)

/-! ### methods of built-in types -/
/-- o.m(e, ..), o a place -/
theorem de_mL {name id : String} {r : V → List V → Hp → VK → Prop} (Fm : FamW F W N j) (slot : Slot "list" name id) (hty : typeOf (.builtin id) = pure (.type "method_descriptor")) (hm : ∀ i, MtR (F i) id r)
    (h : DE F W.K a ρ R fun x R1 => ∃ k ds0, x = .own k ∧ R1[k]? = some (.lst ds0) ∧ DA F W.K (e :: es) ρ R1 fun ds R2 => MD W.K r (.own k) ds R2 Φ)
    (hbase : ∀ i, attributeBase a name (F i).env (eval a (F i).env) = eval a (F i).env := by intro _; rfl)
    (hfew : ∀ i, ((backTo pos (starEach (e :: es) (F i).env)).all (fun x => !x.1) && (backToKw pos (keywordEach [] (F i).env)).all (fun x => x.1.isSome)
      && decide ((e :: es).length + ([] : List Keyword).length + (if ([] : List Keyword).isEmpty then 0 else 1) < 30)) = true := by intro _; rfl)
    (hline : (apos.endLine == pos.line) = true := by rfl) (hst : ∀ i, starEach (e :: es) (F i).env = (false, eval e (F i).env) :: starEach es (F i).env := by intro _; rfl) (hpl : ∀ i, (backTo pos (starEach es (F i).env)).any (·.1) = false := by intro _; rfl) :
    DE F W.K (.Call (.Attribute a name apos) (e :: es) [] pos) ρ R Φ :=
  DE.of (t := tBM W.K "list" r (UE F a) (UA F (e :: es))) (fun i => Fm.toFam.K i ▸ pe_bm PySem.F.plainAttrs_list slot hty (hm i) (pe_u i) (pa_u i) (hbase := hbase i) (hfew := hfew i) (hline := hline) (hs := hst i) (hplain := hpl i)) fun H0 ι σ H Q s r f => h H0 ι σ H _ s r fun d R1 A B v C hb s1 S1 r1 => by
    obtain ⟨k, ds0, rfl, hk, hb⟩ := hb
    cases r1 with
    | @own _ p hp =>
      obtain ⟨_, xs, hx, _⟩ := S1.at_ k p _ hp hk
      exact ⟨.inl ⟨rfl, xs, .inl (.inl hx)⟩, hb A B σ C _ S1 (r.step s1) fun ds R2 A2 B2 vs C2 hd s2 S2 r2 => hd A2 B2 C2 Q (.ref p) vs S2 (.own (s2.pre _ _ hp)) r2 ((f.step s1).step s2)⟩
theorem de_mL0 {name id : String} {r : V → List V → Hp → VK → Prop} (Fm : FamW F W N j) (slot : Slot "list" name id) (hty : typeOf (.builtin id) = pure (.type "method_descriptor")) (hm : ∀ i, MtR (F i) id r)
    (h : DE F W.K a ρ R fun x R1 => ∃ k ds0, x = .own k ∧ R1[k]? = some (.lst ds0) ∧ MD W.K r (.own k) [] R1 Φ)
    (hbase : ∀ i, attributeBase a name (F i).env (eval a (F i).env) = eval a (F i).env := by intro _; rfl) (hline : (apos.endLine == pos.line) = true := by rfl) :
    DE F W.K (.Call (.Attribute a name apos) [] [] pos) ρ R Φ :=
  DE.of (t := tBM0 W.K "list" r (UE F a)) (fun i => Fm.toFam.K i ▸ pe_bm0 PySem.F.plainAttrs_list slot hty (hm i) (pe_u i) (hbase := hbase i) (hline := hline)) fun H0 ι σ H Q s r f => h H0 ι σ H _ s r fun d R1 A B v C hb s1 S1 r1 => by
    obtain ⟨k, ds0, rfl, hk, hb⟩ := hb
    cases r1 with
    | @own _ p hp =>
      obtain ⟨_, xs, hx, _⟩ := S1.at_ k p _ hp hk
      exact ⟨.inl ⟨rfl, xs, .inl (.inl hx)⟩, hb A B C Q (.ref p) [] S1 (.own hp) .nil (f.step s1)⟩
section
variable {K : PySem.W.Frag} {k : Nat} {ds es : List D} {x : D}
theorem md_append (hk : R[k]? = some (.lst ds)) (hz : ds.length < sizeLine) (h : Φ .non (R.set k (.lst (ds ++ [x])))) : MD K rAppend (.own k) [x] R Φ := fun H0 ι H Q v vs s rv rs f => by
  cases rv with
  | own hp =>
    obtain ⟨f0, xs, hx, rx⟩ := s.at_ k _ _ hp hk
    cases rs with
    | cons r1 rr =>
      cases rr
      obtain ⟨S2, s2⟩ := s.write hp hk (rx.append (.cons r1 .nil))
      exact ⟨_, xs, _, rfl, rfl, hx, by rw [rx.length]; exact hz, (f.step s2).now S2 h .non⟩
/-- extend by a list that stays -/
theorem md_extend (hk : R[k]? = some (.lst ds)) (hz : ds.length + es.length ≤ sizeLine) (h : Φ .non (R.set k (.lst (ds ++ es)))) : MD K rExtend (.own k) [.lst es] R Φ := fun H0 ι H Q v vs s rv rs f => by
  cases rv with
  | own hp =>
    obtain ⟨f0, xs, hx, rx⟩ := s.at_ k _ _ hp hk
    cases rs with
    | cons r1 rr =>
      cases rr
      cases r1 with
      | lst hb rb =>
        obtain ⟨S2, s2⟩ := s.write hp hk (rx.append rb)
        exact ⟨_, _, xs, _, rfl, rfl, hx, s.ex _ _ hb, by rw [rx.length, rb.length]; exact hz, (f.step s2).now S2 h .non⟩
theorem md_clear (hk : R[k]? = some (.lst ds)) (h : Φ .non (R.set k (.lst []))) : MD K rClear (.own k) [] R Φ := fun H0 ι H Q v vs s rv rs f => by
  cases rv with
  | own hp =>
    obtain ⟨f0, xs, hx, rx⟩ := s.at_ k _ _ hp hk
    cases rs
    obtain ⟨S2, s2⟩ := s.write hp hk (.nil)
    exact ⟨_, xs, rfl, rfl, hx, (f.step s2).now S2 h .non⟩
theorem md_popAt {i : Int} {q : Nat} (hk : R[k]? = some (.lst ds)) (hi : -(2 ^ 63) ≤ i ∧ i < 2 ^ 63) (hq : seqIndex? i ds.length = some q) (hx : ds[q]? = some x) (h : Φ x (R.set k (.lst (ds.eraseIdx q)))) : MD K rPopAt (.own k) [.int i] R Φ := fun H0 ι H Q v vs s rv rs f => by
  cases rv with
  | own hp =>
    obtain ⟨f0, xs, hxs, rx⟩ := s.at_ k _ _ hp hk
    cases rs with
    | cons r1 rr =>
      cases rr
      cases r1
      obtain ⟨y, hy, ry⟩ := rx.get hx
      obtain ⟨S2, s2⟩ := s.write hp hk (rx.erase q)
      exact ⟨_, xs, i, q, y, rfl, rfl, hxs, hi.1, hi.2, by rw [rx.length]; exact hq, hy, (f.step s2).now S2 h (ry.step s2)⟩
/-- the last one -/
theorem md_pop (hk : R[k]? = some (.lst ds)) (hx : ds[ds.length - 1]? = some x) (h : Φ x (R.set k (.lst (ds.eraseIdx (ds.length - 1))))) : MD K rPop (.own k) [] R Φ := fun H0 ι H Q v vs s rv rs f => by
  cases rv with
  | own hp =>
    obtain ⟨f0, xs, hxs, rx⟩ := s.at_ k _ _ hp hk
    cases rs
    obtain ⟨y, hy, ry⟩ := rx.get hx
    obtain ⟨S2, s2⟩ := s.write hp hk (rx.erase (ds.length - 1))
    refine ⟨_, xs, y, rfl, rfl, hxs, by rw [rx.length]; exact hy, ?_⟩
    have e : xs.dropLast = xs.eraseIdx (ds.length - 1) := by rw [← rx.length, List.eraseIdx_length_sub_one]
    rw [e]
    exact (f.step s2).now S2 h (ry.step s2)
end
/-- o[i] = x, o a place -/
theorem dg_subL {o i : Expr} {x : D} {Ψ : Env → Rs → Prop} (Fm : FamW F W N j) (h : DE F W.K o ρ R fun o' R1 => DE F W.K i ρ R1 fun i' R2 => ∃ k q ds jj, o' = .own k ∧ i' = .int q ∧ R2[k]? = some (.lst ds) ∧ ixN ds.length q = some jj ∧ Ψ ρ (R2.set k (.lst (ds.set jj x))))
    (ha : ∀ c v, assign (.Subscript o i pos) (F c).env v = (do
      let ov ← holding [v] (eval o (F c).env)
      let iv ← holding [v, ov] (eval i (F c).env)
      standAt pos
      holding [v, ov, iv] (setItem ov iv v)
      release [v, ov, iv] []) := by intro _ _; rfl) : DG F W.K (.Subscript o i pos) x ρ R Ψ :=
  DG.of (t := gSub (UE F o) (UE F i) rSetL) (fun c => pg_sub (pe_u c) (pe_u c) set_list (ha c)) fun H0 ι σ H v Q s r rv f => h H0 ι σ H _ s r fun d R1 A B v1 C hb s1 S1 r1 => hb A B σ C _ S1 (r.step s1) fun d2 R2 A2 B2 v2 C2 hp s2 S2 r2 => by
    obtain ⟨k, q, ds, jj, rfl, rfl, hk, hx, hp⟩ := hp
    cases r2
    have r1' := r1.step s2
    cases r1' with
    | own hpk =>
      obtain ⟨f0, xs, hxs, rx⟩ := S2.at_ k _ _ hpk hk
      obtain ⟨S3, s3⟩ := S2.write hpk hk (rx.set ((rv.step s1).step s2) jj)
      refine ⟨_, xs, q, jj, rfl, rfl, hxs, by rw [rx.length]; exact hx, ?_⟩
      exact (((f.step s1).step s2).step s3).now S3 hp (((r.step s1).step s2).step s3)

/-! ### comprehensions -/
abbrev blkF {I : Type} (F : I → Cx) (scope : Scope) : (I × Shared × Hp × Addr × List (Str × Addr) × List Addr) → Cx := fun q => (F q.1).blk q.2.1 q.2.2.1 scope (compEnvC scope q.2.2.2.2.1 q.2.2.2.1 (F q.1).env) q.2.2.2.2.2
theorem FamW.blk {I : Type} {F : I → Cx} {W : World0} {N : List Str} {k : Nat} (Fm : FamW F W N k) (scope : Scope) : FamW (blkF F scope) W N k where
  nd := Fm.nd
  pass := fun _ => PassesOwn.never
  K := fun q => Fm.toFam.K q.1
  mg := fun q => Fm.mg q.1
  N := fun q => Fm.toFam.N q.1
  calm := fun q => Fm.calm q.1
  un := fun q => Fm.un q.1
  P := fun q => Fm.P q.1
  w := fun q => Fm.w q.1
  base := fun q => Fm.base q.1
  rm := fun q => Fm.rm q.1
  gd := fun q => Fm.gd q.1
/-- the slots of a block's own names forgotten -/
def wipeD (ρ : Env) : List Nat → Env
  | [] => ρ
  | v :: vs => (wipeD ρ vs).set v none
theorem wipe_env {K : PySem.W.Frag} {H0 : Hp} {ι : List Addr} {σ : L2.St} {ρ : Env} (r : EnvR K H0 ι σ ρ) : ∀ vs : List Nat, EnvR K H0 ι (wipe σ vs) (wipeD ρ vs)
  | [] => r
  | v :: vs => by
    have q := wipe_env r vs
    refine ⟨by show ((wipe σ vs).set v none).length = ((wipeD ρ vs).set v none).length; rw [List.length_set, List.length_set]; exact q.1, fun i d e => ?_⟩
    have e : ((wipeD ρ vs).set v none)[i]? = some (some d) := e
    by_cases hi : v = i
    · subst hi
      by_cases hv : v < (wipeD ρ vs).length
      · rw [List.getElem?_set_self hv] at e; cases e
      · rw [List.getElem?_eq_none (by simpa using hv)] at e; cases e
    · rw [List.getElem?_set_ne hi] at e
      obtain ⟨w, h1, h2⟩ := q.2 i d e
      exact ⟨w, by show ((wipe σ vs).set v none)[i]? = _; rw [List.getElem?_set_ne hi]; exact h1, h2⟩
theorem wipe_set {σ : L2.St} {o : Option V} {i : Nat} : ∀ {vs : List Nat}, i ∈ vs → wipe (σ.set i o) vs = wipe σ vs
  | [], h => absurd h (by simp)
  | v :: vs, h => by
    show (wipe (σ.set i o) vs).set v none = (wipe σ vs).set v none
    by_cases hm : i ∈ vs
    · rw [wipe_set hm]
    · have e : v = i := by
        rcases List.mem_cons.mp h with z | z
        · exact z.symm
        · exact absurd z hm
      subst e
      clear h
      have key : ∀ us : List Nat, v ∉ us → wipe (σ.set v o) us = (wipe σ us).set v o := by
        intro us
        induction us with
        | nil => intro _; rfl
        | cons u us ih =>
          intro hn
          simp only [List.mem_cons, not_or] at hn
          show (wipe (σ.set v o) us).set u none = ((wipe σ us).set u none).set v o
          rw [ih hn.2, List.set_comm _ _ hn.1]
      rw [key vs hm, List.set_set]
theorem wipe_wipe (σ : L2.St) : ∀ vs : List Nat, wipe (wipe σ vs) vs = wipe σ vs := by
  have key : ∀ (us vs : List Nat), (∀ u ∈ us, u ∈ vs) → ∀ σ : L2.St, wipe (wipe σ us) vs = wipe σ vs := by
    intro us
    induction us with
    | nil => intro vs _ σ; rfl
    | cons u us ih =>
      intro vs hv σ
      show wipe ((wipe σ us).set u none) vs = wipe σ vs
      rw [wipe_set (hv u (by simp)), ih vs (fun x hx => hv x (by simp [hx]))]
  exact fun vs => key vs vs (fun _ h => h) σ
/-- a target that stores into slots of vs alone -/
def DGw {I : Type} (F : I → Cx) (K : PySem.W.Frag) (vs : List Nat) (tg : Expr) (x : D) (ρ : Env) (R : Rs) (Ψ : Env → Rs → Prop) : Prop := ∀ (H0 : Hp) (ι : List Addr) (σ : L2.St) (H : Hp) (v : V) (Q : L2.St → Hp → Prop), SR K H0 ι R H → EnvR K H0 ι σ ρ → Rp K H0 ι v x →
  (∀ ρ' R' H0' ι' σ' H', Ψ ρ' R' → Step H0 ι H H0' ι' H' → SR K H0' ι' R' H' → EnvR K H0' ι' σ' ρ' → wipe σ' vs = wipe σ vs → Q σ' H') → UG F tg v σ H Q
def DGsw {I : Type} (F : I → Cx) (K : PySem.W.Frag) (vs : List Nat) (tgs : List Expr) (xs : List D) (ρ : Env) (R : Rs) (Ψ : Env → Rs → Prop) : Prop := ∀ (H0 : Hp) (ι : List Addr) (σ : L2.St) (H : Hp) (us : List V) (Q : L2.St → Hp → Prop), SR K H0 ι R H → EnvR K H0 ι σ ρ → RpAll K H0 ι us xs →
  (∀ ρ' R' H0' ι' σ' H', Ψ ρ' R' → Step H0 ι H H0' ι' H' → SR K H0' ι' R' H' → EnvR K H0' ι' σ' ρ' → wipe σ' vs = wipe σ vs → Q σ' H') → UGs F tgs us σ H Q
section
variable {K : PySem.W.Frag} {mg : Str → Option Value} {Ψ : Env → Rs → Prop} {vs : List Nat} {tg : Expr} {d : D}
theorem dgw_name {x : Str} (k : Nat) (Fm : Fam F K mg N) (hi : N[k]? = some x) (hx : ∀ i, Loc (F i).env.scope x) (hv : k ∈ vs) (h : Ψ (ρ.set k (some d)) R)
    (hf : ∀ i, (F i).fn x = true ∨ (F i).env.scope.names.lookup x = some .local := by intro _; first | exact .inl rfl | exact .inr rfl) : DGw F K vs (.Name x p) d ρ R Ψ := fun H0 ι σ H v Q s r rv f =>
  ⟨gName k, fun i => pg_name (by rw [Fm.N i]; exact Fm.nd) (by rw [Fm.N i]; exact hi) (hx i) (hf i), f _ _ _ _ _ _ h (Step.refl _ _ _) s (r.set rv k) (wipe_set hv)⟩
theorem dgsw_nil (h : Ψ ρ R) : DGsw F K vs [] [] ρ R Ψ := fun H0 ι σ H us Q s r rv f => by
  cases rv
  exact ⟨gNil, fun _ => pgs_nil, rfl, f _ _ _ _ _ _ h (Step.refl _ _ _) s r rfl⟩
theorem dgsw_cons {tgs : List Expr} {ds : List D} (h : DGw F K vs tg d ρ R fun ρ' R' => DGsw F K vs tgs ds ρ' R' Ψ) (hs : ∀ i, (assignEach (tg :: tgs) (F i).env).map (·.2) = assign tg (F i).env :: (assignEach tgs (F i).env).map (·.2) := by intro _; rfl) : DGsw F K vs (tg :: tgs) (d :: ds) ρ R Ψ :=
  fun H0 ι σ H us Q s r rv f => by
    cases rv with
    | cons r1 rr =>
      refine ⟨gCons (UG F tg) (UGs F tgs), fun i => pgs_cons ⟨?_⟩ (pgs_u i) (hs i), _, _, rfl, ?_⟩
      · intro pins s σ H v u Q I r h
        obtain ⟨t, ht, q⟩ := h
        exact (ht i).run pins s σ H v u Q I r q
      · exact h H0 ι σ H _ _ s r r1 fun ρ' R' A B σ' C hp s1 S1 r2 w1 => hp A B σ' C _ Q S1 r2 (rr.step s1) fun ρ2 R2 A2 B2 σ2 C2 hp2 s2 S2 r3 w2 => f ρ2 R2 A2 B2 σ2 C2 hp2 (s1.trans s2) S2 r3 (w2.trans w1)
theorem dgw_tup {tgs : List Expr} {ds : List D} {x : D} {k : Nat} (Fm : Fam F K mg N) (hx : x = .tup ds ∨ x = .lst ds) (hl : ds.length = tgs.length) (h : DGsw F K vs tgs ds ρ R Ψ)
    (hn : ∀ i, (assignEach tgs (F i).env).length = tgs.length := by intro _; rfl) (hst : ∀ i, (assignEach tgs (F i).env).findIdx? (·.1) = none := by intro _; rfl) : DGw F K vs (.Tuple tgs k p) x ρ R Ψ := fun H0 ι σ H v Q s r rv f => by
  refine ⟨fun v σ H Q => gTup K tgs.length (UGs F tgs) v σ H Q ∨ gUnl K tgs.length (UGs F tgs) v σ H Q, fun i => pg_or (Fm.K i ▸ pg_tup (Fm.calm i) (pgs_u i) (hn i) (hst i)) (Fm.K i ▸ pg_unl (Fm.calm i) (pgs_u i) (hn i) (hst i)), ?_⟩
  rcases hx with rfl | rfl
  · cases rv with
    | tup ha ra => exact .inl ⟨_, _, rfl, (ha.mono s.ex).sqT, by rw [ra.length]; exact hl, h H0 ι σ H _ Q s r ra f⟩
  · cases rv with
    | lst ha ra => exact .inr ⟨_, _, rfl, .inl (.inl (s.ex _ _ ha)), by rw [ra.length]; exact hl, h H0 ι σ H _ Q s r ra f⟩
end
/-- the tests of a comprehension -/
def UTs {I : Type} (F : I → Cx) (es : List Expr) : TT := fun σ H Q => ∃ t : TT, (∀ i, PTs (F i) es t) ∧ t σ H Q
def DTs {I : Type} (F : I → Cx) (K : PySem.W.Frag) (es : List Expr) (ρ : Env) (R : Rs) (Φ : Bool → Rs → Prop) : Prop := ∀ (H0 : Hp) (ι : List Addr) (σ : L2.St) (H : Hp) (Q : Bool → Hp → Prop), SR K H0 ι R H → EnvR K H0 ι σ ρ → FinT K H0 ι H Φ Q → UTs F es σ H Q
end
end DL
namespace DL
open PySem PySem.Spec PyProof.Rows L2
section
variable {I : Type} {F : I → Cx} {W : World0} {N : List Str} {ρ : Env} {R R' : Rs} {Φ : Φ1} {e a b : Expr} {es : List Expr} {pos p apos : Pos} {j : Nat}
theorem pts_u {es : List Expr} (i : I) : PTs (F i) es (UTs F es) := ⟨fun pins s σ H Q I h => by
  obtain ⟨t, ht, q⟩ := h
  exact (ht i).run pins s σ H Q I q⟩
theorem dts_nil {K : PySem.W.Frag} {Φ : Bool → Rs → Prop} (h : Φ true R) : DTs F K [] ρ R Φ := fun H0 ι σ H Q s r f => ⟨tYes, fun _ => pts_nil, f true R H0 ι H h (Step.refl _ _ _) s⟩
theorem dts_one {K : PySem.W.Frag} {Φ : Bool → Rs → Prop} {c : Expr} (h : DT F K c ρ R Φ) : DTs F K [c] ρ R Φ := fun H0 ι σ H Q s r f => ⟨UT F c, fun i => pts_one (pt_u i), h H0 ι σ H Q s r f⟩

/-- the comprehension's list at D so far -/
def LcSt (K : PySem.W.Frag) (A : Hp) (B : List Addr) (C : Hp) (Dl : Addr) (J : List D → Rs → Prop) (H' : Hp) : Prop :=
  ∃ ys R' H0' ι' accs, J ys R' ∧ Step A B C H0' ι' H' ∧ SR K H0' ι' R' H' ∧ H' Dl = some (.lst accs) ∧ RpAll K H0' ι' accs ys ∧ H0' Dl = none ∧ Dl ∉ ι'
theorem lcst_end {K : PySem.W.Frag} {A : Hp} {B : List Addr} {C : Hp} {Dl : Addr} {J : List D → Rs → Prop} {H' : Hp} {Q : VK} (hD : C Dl = none) (h : LcSt K A B C Dl J H') (f : Fin K A B C Φ Q) (hJ : ∀ ys R', J ys R' → Φ (.lst ys) R') : Q (.ref Dl) H' := by
  obtain ⟨ys, R', H0', ι', accs, hj, st, S, hd, ra, h0, hi⟩ := h
  have S2 := S.adopt h0 hi hd
  have ex0 : Same H0' (upd H0' Dl (.lst accs)) := same_new h0
  refine f (.lst ys) R' (upd H0' Dl (.lst accs)) ι' (.ref Dl) H' (hJ ys R' hj) ⟨st.ex.trans ex0, st.pre, st.keep, st.new, fun a o e => ?_⟩ S2 (.lst upd_same (ra.mono ex0 (Pre.refl _)))
  by_cases q : a = Dl
  · subst q; exact .inr (.inl hD)
  · rw [upd_ne q] at e; exact st.frz a o e
theorem lcst_start {K : PySem.W.Frag} {A : Hp} {B : List Addr} {C : Hp} {Dl : Addr} {J : List D → Rs → Prop} (S : SR K A B R C) (hD : C Dl = none) (h : J [] R) : LcSt K A B C Dl J (upd C Dl (.lst [])) := by
  obtain ⟨S2, s2⟩ := S.litter (o := .lst []) hD
  obtain ⟨f0, fi⟩ := S.fresh hD
  exact ⟨[], R, A, B, [], h, s2, S2, upd_same, .nil, f0, fi⟩
/-- one turn -/
theorem lcst_turn {J0 : Type} {G : J0 → Cx} {K : PySem.W.Frag} {A : Hp} {B : List Addr} {C : Hp} {Dl : Addr} {J Jn : List D → Rs → Prop} {H' : Hp} {vs : List Nat} {σ : L2.St} {ρ : Env} {tg elt : Expr} {ifs : List Expr} {x : V}
    (hz : ∀ ys R', J ys R' → ys.length < sizeLine) (hD : C Dl = none) (h : LcSt K A B C Dl J H') (hρ : EnvR K A B (wipe σ vs) ρ) (hx : ∀ ys R', J ys R' → ∀ H0' ι', Step A B C H0' ι' H' → ∃ d, Rp K H0' ι' x d ∧ DGw G K vs tg d ρ R' fun ρ2 R2 => DTs G K ifs ρ2 R2 fun k R3 => (k = true → DE G K elt ρ2 R3 fun y R4 => Jn (ys ++ [y]) R4) ∧ (k = false → Jn ys R3)) :
    UG G tg x (wipe σ vs) H' fun σ2 H2 => wipe σ2 vs = wipe σ vs ∧ UTs G ifs σ2 H2 fun b H3 => if b = true then UE G elt σ2 H3 fun y H4 => ∃ acc, H4 Dl = some (.lst acc) ∧ acc.length < sizeLine ∧ LcSt K A B C Dl Jn (upd H4 Dl (.lst (acc ++ [y]))) else LcSt K A B C Dl Jn H3 := by
  obtain ⟨ys, R', H0', ι', accs, hj, st, S, hd, ra, h0, hi⟩ := h
  obtain ⟨d, rx, hg⟩ := hx ys R' hj H0' ι' st
  refine hg H0' ι' (wipe σ vs) H' x _ S (hρ.step st) rx fun ρ2 R2 A2 B2 σ2 C2 ht s2 S2 r2 w2 => ⟨w2.trans (wipe_wipe σ vs), ht A2 B2 σ2 C2 _ S2 r2 fun k R3 A3 B3 C3 hk s3 S3 => ?_⟩
  -- the list stands through all of it
  have fr : ∀ {A4 : Hp} {B4 : List Addr} {C4 : Hp}, Step H0' ι' H' A4 B4 C4 → C4 Dl = some (.lst accs) ∧ A4 Dl = none ∧ Dl ∉ B4 := fun {A4 B4 C4} s4 => by
    refine ⟨s4.keep _ _ hd hi, ?_, fun m => ?_⟩
    · cases q : A4 Dl with
      | none => rfl
      | some o =>
        rcases s4.frz _ _ q with z | z | z
        · rw [h0] at z; cases z
        · rw [hd] at z; cases z
        · exact absurd z hi
    · rcases s4.new _ m with z | z
      · exact hi z
      · rw [hd] at z; cases z
  cases k with
  | true =>
    refine hk.1 rfl A3 B3 σ2 C3 _ S3 (r2.step s3) fun y R4 A4 B4 v C4 hy s4 S4 r4 => ?_
    obtain ⟨q1, q2, q3⟩ := fr ((s2.trans s3).trans s4)
    have st4 := (((st.trans s2).trans s3).trans s4)
    refine ⟨accs, q1, by rw [ra.length]; exact hz ys R' hj, ys ++ [y], R4, A4, B4, accs ++ [v], hy, ⟨st4.ex, st4.pre, fun a o e hn => ?_, st4.new, st4.frz⟩, S4.off q2 q3, upd_same, ((ra.step ((s2.trans s3).trans s4)).append (.cons r4 .nil)), q2, q3⟩
    have : a ≠ Dl := ne_of_none e hD
    rw [upd_ne this]
    exact st4.keep a o e hn
  | false =>
    obtain ⟨q1, q2, q3⟩ := fr (s2.trans s3)
    exact ⟨ys, R3, A3, B3, accs, hk.2 rfl, (st.trans s2).trans s3, S3, q1, ra.step (s2.trans s3), q2, q3⟩

/-- [elt for tg in iter if ..] over a list or a tuple that stays as it is -/
theorem de_lcL {tg iter elt : Expr} {ifs : List Expr} {scope : Scope} {own : List (Str × Nat)} (Fm : FamW F W N j) (ok : ∀ i, BlkOk (F i).N (F i).env.scope scope own)
    (h : DE F W.K iter ρ R fun d R1 => ∃ (ds : List D) (J : Nat → List D → Rs → Prop), (d = .lst ds ∨ d = .rd ds) ∧ J 0 [] R1 ∧ (∀ i ys R', J i ys R' → ys.length < sizeLine) ∧
      (∀ i x ys R', ds[i]? = some x → J i ys R' → DGw (blkF F scope) W.K (own.map (·.2)) tg x (wipeD ρ (own.map (·.2))) R' fun ρ2 R2 => DTs (blkF F scope) W.K ifs ρ2 R2 fun k R3 => (k = true → DE (blkF F scope) W.K elt ρ2 R3 fun y R4 => J (i + 1) (ys ++ [y]) R4) ∧ (k = false → J (i + 1) ys R3)) ∧
      (∀ ys R', J ds.length ys R' → Φ (.lst ys) R')) (hs : ∀ i x, foldedSetIterable iter (F i).env x = pure x := by intro _ _; rfl) : DE F W.K (.ListComp elt [⟨tg, iter, ifs, 0⟩] scope pos) ρ R Φ :=
  DE.of (t := tLc (iList W.K (UE F iter)) (UG (blkF F scope) tg) (UTs (blkF F scope) ifs) (UE (blkF F scope) elt) (own.map (·.2))) (fun i => pe_lc (Fm.calm i) (by rw [Fm.toFam.N i]; exact Fm.nd) (Fm.toFam.K i ▸ pi_list (pe_u i)) (ok i)
    (fun s H C cl fp => pg_u (F := blkF F scope) (i, s, H, C, cl, fp)) (fun s H C cl fp => pts_u (F := blkF F scope) (i, s, H, C, cl, fp)) (fun s H C cl fp => pe_u (F := blkF F scope) (i, s, H, C, cl, fp)) (hs i)) fun H0 ι σ H Q s r f => h H0 ι σ H _ s r fun d R1 A B v C hp s1 S1 r1 => by
    obtain ⟨ds, J, hd, h0, hz, hstep, hend⟩ := hp
    have key : ∀ (c : Addr) (xs : List V), v = .ref c → SqL W.K A c xs → RpAll W.K A B xs ds → ∃ a, v = .ref a ∧ (∃ xs, SqL W.K C a xs) ∧ ∀ D, C D = none → ∃ W_1 : Nat → Nat → Hp → Prop, (∃ m, W_1 0 m (upd C D (.lst []))) ∧ ∀ i m H, W_1 i m H →
        ((Itl W.K a).stop i H ∧ Q (.ref D) H) ∨ ((Itl W.K a).go i H ∧ ∃ Nx : Hp → Prop, (∀ H', Nx H' → ∃ m', m' < m ∧ W_1 (i + 1) m' H') ∧ ∀ x H', (Itl W.K a).yld i H x H' → UG (blkF F scope) tg x (wipe σ (own.map (·.2))) H' fun σ2 H2 => wipe σ2 (own.map (·.2)) = wipe σ (own.map (·.2)) ∧ UTs (blkF F scope) ifs σ2 H2 fun b H3 =>
          if b = true then UE (blkF F scope) elt σ2 H3 fun y H4 => ∃ acc, H4 D = some (.lst acc) ∧ acc.length < sizeLine ∧ Nx (upd H4 D (.lst (acc ++ [y]))) else Nx H3) := fun c xs e hq ra => by
      subst e
      refine ⟨c, rfl, ⟨xs, S1.ex.seq hq⟩, fun Dl hD => lc_list (Pv := fun i H' => LcSt W.K A B C Dl (J i) H') (xs := xs) (lcst_start S1 hD h0) (fun i H' _ hl => ?_) (fun i x H' hx hl => ?_) fun H' hl => ?_⟩
      · obtain ⟨ys, R', H0', ι', accs, hj, st, S, _⟩ := hl
        exact (st.ex.trans S.ex).seq hq
      · exact lcst_turn (hz i) hD hl (wipe_env (r.step s1) _) fun ys R' hj H0' ι' st => by
          obtain ⟨dx, hdx, rx⟩ := ra.getV hx
          exact ⟨dx, rx.step st, hstep i dx ys R' hdx hj⟩
      · rw [ra.length] at hl
        exact lcst_end hD hl (f.step s1) hend
    rcases hd with rfl | rfl
    · cases r1 with
      | lst ha ra => exact key _ _ rfl (.inl (.inl ha)) ra
    · cases r1 with
      | rd ha ra => exact key _ _ rfl ha ra
theorem de_lcT {tg iter elt : Expr} {ifs : List Expr} {scope : Scope} {own : List (Str × Nat)} (Fm : FamW F W N j) (ok : ∀ i, BlkOk (F i).N (F i).env.scope scope own)
    (h : DE F W.K iter ρ R fun d R1 => ∃ (ds : List D) (J : Nat → List D → Rs → Prop), d = .tup ds ∧ J 0 [] R1 ∧ (∀ i ys R', J i ys R' → ys.length < sizeLine) ∧
      (∀ i x ys R', ds[i]? = some x → J i ys R' → DGw (blkF F scope) W.K (own.map (·.2)) tg x (wipeD ρ (own.map (·.2))) R' fun ρ2 R2 => DTs (blkF F scope) W.K ifs ρ2 R2 fun k R3 => (k = true → DE (blkF F scope) W.K elt ρ2 R3 fun y R4 => J (i + 1) (ys ++ [y]) R4) ∧ (k = false → J (i + 1) ys R3)) ∧
      (∀ ys R', J ds.length ys R' → Φ (.lst ys) R')) (hs : ∀ i x, foldedSetIterable iter (F i).env x = pure x := by intro _ _; rfl) : DE F W.K (.ListComp elt [⟨tg, iter, ifs, 0⟩] scope pos) ρ R Φ :=
  DE.of (t := tLc (iTup W.K (UE F iter)) (UG (blkF F scope) tg) (UTs (blkF F scope) ifs) (UE (blkF F scope) elt) (own.map (·.2))) (fun i => pe_lc (Fm.calm i) (by rw [Fm.toFam.N i]; exact Fm.nd) (Fm.toFam.K i ▸ pi_tup (pe_u i)) (ok i)
    (fun s H C cl fp => pg_u (F := blkF F scope) (i, s, H, C, cl, fp)) (fun s H C cl fp => pts_u (F := blkF F scope) (i, s, H, C, cl, fp)) (fun s H C cl fp => pe_u (F := blkF F scope) (i, s, H, C, cl, fp)) (hs i)) fun H0 ι σ H Q s r f => h H0 ι σ H _ s r fun d R1 A B v C hp s1 S1 r1 => by
    obtain ⟨ds, J, rfl, h0, hz, hstep, hend⟩ := hp
    cases r1 with
    | @tup c xs _ hq ra =>
      refine ⟨c, rfl, ⟨xs, (hq.mono S1.ex).sqT⟩, fun Dl hD => lc_tup (Pv := fun i H' => LcSt W.K A B C Dl (J i) H') (xs := xs) (lcst_start S1 hD h0) (fun i H' _ hl => ?_) (fun i x H' hx hl => ?_) fun H' hl => ?_⟩
      · obtain ⟨ys, R', H0', ι', accs, hj, st, S, _⟩ := hl
        exact (hq.mono (st.ex.trans S.ex)).sqT
      · exact lcst_turn (hz i) hD hl (wipe_env (r.step s1) _) fun ys R' hj H0' ι' st => by
          obtain ⟨dx, hdx, rx⟩ := ra.getV hx
          exact ⟨dx, rx.step st, hstep i dx ys R' hdx hj⟩
      · rw [ra.length] at hl
        exact lcst_end hD hl (f.step s1) hend
theorem de_lcR {tg elt : Expr} {ifs : List Expr} {scope : Scope} {own : List (Str × Nat)} {pr pc : Pos} (Fm : FamW F W N j) (hg : ∀ i, Gl (F i) "range") (hm : W.mg "range" = none) (ok : ∀ i, BlkOk (F i).N (F i).env.scope scope own)
    (h : DE F W.K a ρ R fun d R1 => ∃ (n : Int) (J : Nat → List D → Rs → Prop), d = .int n ∧ (-(2 ^ 62) ≤ n ∧ n < 2 ^ 62) ∧ J 0 [] R1 ∧ (∀ i ys R', J i ys R' → ys.length < sizeLine) ∧
      (∀ i ys R', i < n.toNat → J i ys R' → DGw (blkF F scope) W.K (own.map (·.2)) tg (.int (i : Int)) (wipeD ρ (own.map (·.2))) R' fun ρ2 R2 => DTs (blkF F scope) W.K ifs ρ2 R2 fun k R3 => (k = true → DE (blkF F scope) W.K elt ρ2 R3 fun y R4 => J (i + 1) (ys ++ [y]) R4) ∧ (k = false → J (i + 1) ys R3)) ∧
      (∀ ys R', J n.toNat ys R' → Φ (.lst ys) R')) (hst : ∀ i, starEach [a] (F i).env = [(false, eval a (F i).env)] := by intro _; rfl) (hs : ∀ i x, foldedSetIterable (.Call (.Name "range" pr) [a] [] pc) (F i).env x = pure x := by intro _ _; rfl) : DE F W.K (.ListComp elt [⟨tg, .Call (.Name "range" pr) [a] [] pc, ifs, 0⟩] scope pos) ρ R Φ :=
  DE.of (t := tLc (iRng1 (tCons (UE F a) tNil)) (UG (blkF F scope) tg) (UTs (blkF F scope) ifs) (UE (blkF F scope) elt) (own.map (·.2))) (fun i => pe_lc (Fm.calm i) (by rw [Fm.toFam.N i]; exact Fm.nd) (pi_range1 (hg i) (by rw [Fm.mg i]; exact hm) (pa_cons (pe_u i) pa_nil (hst i)) (hst i)) (ok i)
    (fun s H C cl fp => pg_u (F := blkF F scope) (i, s, H, C, cl, fp)) (fun s H C cl fp => pts_u (F := blkF F scope) (i, s, H, C, cl, fp)) (fun s H C cl fp => pe_u (F := blkF F scope) (i, s, H, C, cl, fp)) (hs i)) fun H0 ι σ H Q s r f => h H0 ι σ H _ s r fun d R1 A B v C hp s1 S1 r1 => by
    obtain ⟨n, J, rfl, hn, h0, hz, hstep, hend⟩ := hp
    cases r1
    refine ⟨n, rfl, hn.1, hn.2, fun Dl hD => lc_range (lo := 0) (n := n.toNat) (Pv := fun i H' => LcSt W.K A B C Dl (J i) H') (lcst_start S1 hD h0) (fun i H' hi hl => ?_) fun H' hl => ?_⟩
    · have e0 : (0 : Int) + (i : Int) = (i : Int) := Int.zero_add _
      rw [e0]
      exact lcst_turn (hz i) hD hl (wipe_env (r.step s1) _) fun ys R' hj H0' ι' st => ⟨.int _, .int _, hstep i ys R' hi hj⟩
    · exact lcst_end hD hl (f.step s1) hend
theorem lc_signs {x : Str} {g : TG} {tt : TT} {te : TE} {vs : List Nat} {σ : L2.St} {H1 : Hp} {D : Addr} {Qd : Hp → Prop} (Pv : Nat → Hp → Prop) (h0 : Pv 0 (upd H1 D (.lst [])))
    (hs : ∀ (i : Nat) (c : Nat) (H : Hp), x.cps[i]? = some c → Pv i H → g (.str ⟨#[c]⟩) (wipe σ vs) H fun σ2 H2 => wipe σ2 vs = wipe σ vs ∧ tt σ2 H2 fun b H3 =>
      if b = true then te σ2 H3 fun y H4 => ∃ acc, H4 D = some (.lst acc) ∧ acc.length < sizeLine ∧ Pv (i + 1) (upd H4 D (.lst (acc ++ [y]))) else Pv (i + 1) H3) (hd : ∀ H, Pv x.cps.size H → Qd H) :
    ∃ W : Nat → Nat → Hp → Prop, (∃ m, W 0 m (upd H1 D (.lst []))) ∧ ∀ i m H, W i m H →
      ((Its x).stop i H ∧ Qd H) ∨ ((Its x).go i H ∧ ∃ Nx : Hp → Prop, (∀ H', Nx H' → ∃ m', m' < m ∧ W (i + 1) m' H') ∧ ∀ v H', (Its x).yld i H v H' → g v (wipe σ vs) H' fun σ2 H2 => wipe σ2 vs = wipe σ vs ∧ tt σ2 H2 fun b H3 =>
        if b = true then te σ2 H3 fun y H4 => ∃ acc, H4 D = some (.lst acc) ∧ acc.length < sizeLine ∧ Nx (upd H4 D (.lst (acc ++ [y]))) else Nx H3) := by
  refine ⟨fun i m H => m = x.cps.size - i ∧ i ≤ x.cps.size ∧ Pv i H, ⟨x.cps.size, by simp, Nat.zero_le _, h0⟩, ?_⟩
  rintro i m H ⟨rfl, hi, p⟩
  by_cases hlt : i < x.cps.size
  · refine .inr ⟨hlt, Pv (i + 1), fun H' p' => ⟨x.cps.size - (i + 1), by omega, rfl, hlt, p'⟩, fun v H' y => ?_⟩
    obtain ⟨e, c, hc, y⟩ := y
    subst e y
    exact hs i c _ hc p
  · have e : i = x.cps.size := by omega
    subst e
    exact .inl ⟨Nat.le_refl _, hd H p⟩
/-- over a text, sign by sign -/
theorem de_lcS {tg iter elt : Expr} {ifs : List Expr} {scope : Scope} {own : List (Str × Nat)} (Fm : FamW F W N j) (ok : ∀ i, BlkOk (F i).N (F i).env.scope scope own)
    (h : DE F W.K iter ρ R fun d R1 => ∃ (z : Str) (J : Nat → List D → Rs → Prop), d = .str z ∧ J 0 [] R1 ∧ (∀ i ys R', J i ys R' → ys.length < sizeLine) ∧
      (∀ i c ys R', z.cps.toList[i]? = some c → J i ys R' → DGw (blkF F scope) W.K (own.map (·.2)) tg (.str ⟨#[c]⟩) (wipeD ρ (own.map (·.2))) R' fun ρ2 R2 => DTs (blkF F scope) W.K ifs ρ2 R2 fun k R3 => (k = true → DE (blkF F scope) W.K elt ρ2 R3 fun y R4 => J (i + 1) (ys ++ [y]) R4) ∧ (k = false → J (i + 1) ys R3)) ∧
      (∀ ys R', J z.cps.toList.length ys R' → Φ (.lst ys) R')) (hs : ∀ i x, foldedSetIterable iter (F i).env x = pure x := by intro _ _; rfl) : DE F W.K (.ListComp elt [⟨tg, iter, ifs, 0⟩] scope pos) ρ R Φ :=
  DE.of (t := tLc (iStr (UE F iter)) (UG (blkF F scope) tg) (UTs (blkF F scope) ifs) (UE (blkF F scope) elt) (own.map (·.2))) (fun i => pe_lc (Fm.calm i) (by rw [Fm.toFam.N i]; exact Fm.nd) (pi_str (pe_u i)) (ok i)
    (fun s H C cl fp => pg_u (F := blkF F scope) (i, s, H, C, cl, fp)) (fun s H C cl fp => pts_u (F := blkF F scope) (i, s, H, C, cl, fp)) (fun s H C cl fp => pe_u (F := blkF F scope) (i, s, H, C, cl, fp)) (hs i)) fun H0 ι σ H Q s r f => h H0 ι σ H _ s r fun d R1 A B v C hp s1 S1 r1 => by
    obtain ⟨z, J, rfl, h0, hz, hstep, hend⟩ := hp
    cases r1
    refine ⟨z, rfl, fun Dl hD => lc_signs (x := z) (Pv := fun i H' => LcSt W.K A B C Dl (J i) H') (lcst_start S1 hD h0) (fun i c H' hi hl => ?_) fun H' hl => ?_⟩
    · exact lcst_turn (hz i) hD hl (wipe_env (r.step s1) _) fun ys R' hj H0' ι' st => ⟨.str _, .str _, hstep i c ys R' (by simpa using hi) hj⟩
    · rw [← Array.length_toList] at hl
      exact lcst_end hD hl (f.step s1) hend
end
end DL
namespace DL
open PySem PySem.Spec PyProof.Rows L2

/-! ### plain data -/
mutual
def D.py : D → PyData
  | .non => .none
  | .bl b => .bool b
  | .int i => .int i
  | .str s => .str s
  | .ty _ => .dict []
  | .tup ds => .tuple (D.pyAll ds)
  | .lst ds => .list (D.pyAll ds)
  | .rd ds => .list (D.pyAll ds)
  | .own _ => .dict []
def D.pyAll : List D → List PyData
  | [] => []
  | d :: ds => D.py d :: D.pyAll ds
end
mutual
/-- none, bools, ints, texts, tuples and lists of such; nested to n deep -/
def D.ok : Nat → D → Bool
  | _, .non => true
  | _, .bl _ => true
  | _, .int _ => true
  | _, .str _ => true
  | _, .ty _ => false
  | 0, .tup _ => false
  | n + 1, .tup ds => D.okAll n ds
  | 0, .lst _ => false
  | n + 1, .lst ds => D.okAll n ds
  | 0, .rd _ => false
  | n + 1, .rd ds => D.okAll n ds
  | _, .own _ => false
def D.okAll : Nat → List D → Bool
  | _, [] => true
  | n, d :: ds => D.ok n d && D.okAll n ds
end
mutual
theorem D.ok_plain : ∀ (n : Nat) (d : D), D.ok n d = true → (D.py d).plain = true ∧ (D.py d).depth ≤ n
  | _, .non, _ => ⟨rfl, Nat.zero_le _⟩
  | _, .bl _, _ => ⟨rfl, Nat.zero_le _⟩
  | _, .int _, _ => ⟨rfl, Nat.zero_le _⟩
  | _, .str _, _ => ⟨rfl, Nat.zero_le _⟩
  | _, .ty _, h => by cases h
  | 0, .tup _, h => by cases h
  | n + 1, .tup ds, h => by
    obtain ⟨h1, h2⟩ := D.ok_plainAll n ds h
    exact ⟨by simpa [D.py, PyData.plain] using h1, by simp only [D.py, PyData.depth]; omega⟩
  | 0, .lst _, h => by cases h
  | n + 1, .lst ds, h => by
    obtain ⟨h1, h2⟩ := D.ok_plainAll n ds h
    exact ⟨by simpa [D.py, PyData.plain] using h1, by simp only [D.py, PyData.depth]; omega⟩
  | 0, .rd _, h => by cases h
  | n + 1, .rd ds, h => by
    obtain ⟨h1, h2⟩ := D.ok_plainAll n ds h
    exact ⟨by simpa [D.py, PyData.plain] using h1, by simp only [D.py, PyData.depth]; omega⟩
  | _, .own _, h => by cases h
theorem D.ok_plainAll : ∀ (n : Nat) (ds : List D), D.okAll n ds = true → PyData.plainAll (D.pyAll ds) = true ∧ PyData.depthAll (D.pyAll ds) ≤ n
  | _, [], _ => ⟨rfl, Nat.zero_le _⟩
  | n, d :: ds, h => by
    obtain ⟨h1, h2⟩ := Bool.and_eq_true_iff.mp (show (D.ok n d && D.okAll n ds) = true from by simpa [D.okAll] using h)
    obtain ⟨a1, a2⟩ := D.ok_plain n d h1
    obtain ⟨b1, b2⟩ := D.ok_plainAll n ds h2
    exact ⟨by simp only [D.pyAll, PyData.plainAll, a1, b1, Bool.and_self], by simp only [D.pyAll, PyData.depthAll]; omega⟩
end
section
variable {K : PySem.W.Frag} {H : Hp} {ι : List Addr}
mutual
theorem Rp.dp : ∀ {v : V} {d : D} {n : Nat}, Rp K H ι v d → D.ok n d = true → Dp K H v d.py
  | _, _, _, .non, _ => .non
  | _, _, _, .bl b, _ => .bl b
  | _, _, _, .int i, _ => .int i
  | _, _, _, .str x, _ => .str x
  | _, _, 0, .ty n, h => by cases h
  | _, _, n + 1, .ty _, h => by cases h
  | _, _, 0, .lst _ _, h => by cases h
  | _, _, n + 1, .lst h r, k => .lst (.inl (.inl h)) (RpAll.dp r k)
  | _, _, 0, .rd _ _, h => by cases h
  | _, _, n + 1, .rd h r, k => .lst h (RpAll.dp r k)
  | _, _, 0, .tup _ _, h => by cases h
  | _, _, n + 1, .tup h r, k => .tup h.sqT (RpAll.dp r k)
  | _, _, 0, .own _, h => by cases h
  | _, _, n + 1, .own _, h => by cases h
theorem RpAll.dp : ∀ {vs : List V} {ds : List D} {n : Nat}, RpAll K H ι vs ds → D.okAll n ds = true → DpAll K H vs (D.pyAll ds)
  | _, _, _, .nil, _ => .nil
  | _, _, _, .cons r t, k => by
    obtain ⟨h1, h2⟩ := Bool.and_eq_true_iff.mp (show (D.ok _ _ && D.okAll _ _) = true from by simpa [D.okAll] using k)
    exact .cons (Rp.dp r h1) (RpAll.dp t h2)
end
end
/-- a place as it stands -/
def D.see (R : Rs) : D → D
  | .own k => match R[k]? with
    | some (.lst ds) => .lst ds
    | _ => .own k
  | d => d
theorem Rp.see {K : PySem.W.Frag} {H0 H : Hp} {ι : List Addr} {R : Rs} {v : V} {d : D} (s : SR K H0 ι R H) (r : Rp K H0 ι v d) : Rp K H ι v (d.see R) := by
  have up := r.up s
  cases r with
  | @own k a hk =>
    show Rp K H ι (.ref a) (match R[k]? with | some (.lst ds) => .lst ds | _ => .own k)
    cases q : R[k]? with
    | none => exact up
    | some res =>
      cases res with
      | gone => exact up
      | dic δ => exact up
      | lst ds =>
        obtain ⟨_, xs, hx, rx⟩ := s.at_ k a _ hk q
        exact .lst hx (rx.up s)
  | _ => exact up

/-! ### ==, !=, in, not in -/
section
variable {X : Cx}
def rEqP (K : PySem.W.Frag) (f : Bool → Bool) : R2 := fun x y H Q => ∃ d e, Dp K H x d ∧ Dp K H y e ∧ d.plain = true ∧ e.plain = true ∧ min d.depth e.depth ≤ 60 ∧ Q (.bl (f (PyData.eqv d e))) H
theorem op_eqP (hu : X.A.units + 200 < cLine) : OpR X (compareOp .Eq) (rEqP X.K id) := by
  intro pins s σ H x y v u Q I rx ry h
  obtain ⟨d, e, hd, he, sd, se, hz, q⟩ := h
  obtain ⟨as, r1⟩ := Dp.reads I d x v hd rx
  obtain ⟨bs, r2⟩ := Dp.reads I e y u he ry
  exact SeqAt.eq_plain r1 r2 sd se (by omega) ⟨.bl _, H, I, rfl, q⟩
theorem op_neP (hu : X.A.units + 200 < cLine) : OpR X (compareOp .NotEq) (rEqP X.K Bool.not) := by
  intro pins s σ H x y v u Q I rx ry h
  obtain ⟨d, e, hd, he, sd, se, hz, q⟩ := h
  obtain ⟨as, r1⟩ := Dp.reads I d x v hd rx
  obtain ⟨bs, r2⟩ := Dp.reads I e y u he ry
  exact SeqAt.ne_plain r1 r2 sd se (by omega) ⟨.bl _, H, I, rfl, q⟩
def rInP (K : PySem.W.Frag) (f : Bool → Bool) : R2 := fun x y H Q => ∃ d ds, Dp K H x d ∧ (Dp K H y (.list ds) ∨ Dp K H y (.tuple ds)) ∧ d.plain = true ∧ PyData.plainAll ds = true ∧ d.depth ≤ 60 ∧ Q (.bl (f (ds.any fun z => PyData.eqv z d))) H
theorem op_inP (hu : X.A.units + 200 < cLine) : OpR X (compareOp .In) (rInP X.K id) := by
  intro pins s σ H x y v u Q I rx ry h
  obtain ⟨d, ds, hd, he, sd, se, hz, q⟩ := h
  obtain ⟨as, r1⟩ := Dp.reads I d x v hd rx
  rcases he with he | he
  · obtain ⟨bs, r2⟩ := Dp.reads I (.list ds) y u he ry
    exact SeqAt.in_list_data r2 r1 se sd (by omega) ⟨.bl _, H, I, rfl, q⟩
  · obtain ⟨bs, r2⟩ := Dp.reads I (.tuple ds) y u he ry
    exact SeqAt.in_tuple_data r2 r1 se sd (by omega) ⟨.bl _, H, I, rfl, q⟩
theorem op_notInP (hu : X.A.units + 200 < cLine) : OpR X (compareOp .NotIn) (rInP X.K Bool.not) := by
  intro pins s σ H x y v u Q I rx ry h
  obtain ⟨d, ds, hd, he, sd, se, hz, q⟩ := h
  obtain ⟨as, r1⟩ := Dp.reads I d x v hd rx
  rcases he with he | he
  · obtain ⟨bs, r2⟩ := Dp.reads I (.list ds) y u he ry
    exact SeqAt.notIn_list_data r2 r1 se sd (by omega) ⟨.bl _, H, I, rfl, q⟩
  · obtain ⟨bs, r2⟩ := Dp.reads I (.tuple ds) y u he ry
    exact SeqAt.notIn_tuple_data r2 r1 se sd (by omega) ⟨.bl _, H, I, rfl, q⟩
end
section
variable {I : Type} {F : I → Cx} {K : PySem.W.Frag} {mg : Str → Option Value} {N : List Str} {ρ : Env} {R : Rs} {Φ : Φ1} {ΦT : Bool → Rs → Prop} {e a b : Expr} {pos p : Pos}
theorem od_eq {x y : D} {n m : Nat} {f : Bool → Bool} (hx : D.ok n (x.see R) = true) (hy : D.ok m (y.see R) = true) (hz : min n m ≤ 60) (h : Φ (.bl (f (PyData.eqv (x.see R).py (y.see R).py))) R) : OD K (rEqP K f) x y R Φ := fun H0 ι H Q v w s rv rw f => by
  have r1 := rv.see s
  have r2 := rw.see s
  obtain ⟨p1, d1⟩ := D.ok_plain n _ hx
  obtain ⟨p2, d2⟩ := D.ok_plain m _ hy
  exact ⟨_, _, r1.dp hx, r2.dp hy, p1, p2, by omega, f.now s h (.bl _)⟩
theorem od_in {x y : D} {ds : List D} {n m : Nat} {f : Bool → Bool} (hx : D.ok n (x.see R) = true) (hn : n ≤ 60) (hy : y.see R = .lst ds ∨ y.see R = .rd ds ∨ y.see R = .tup ds) (hd : D.okAll m ds = true) (h : Φ (.bl (f ((D.pyAll ds).any fun z => PyData.eqv z (x.see R).py))) R) : OD K (rInP K f) x y R Φ := fun H0 ι H Q v w s rv rw f => by
  have r1 := rv.see s
  have r2 := rw.see s
  obtain ⟨p1, d1⟩ := D.ok_plain n _ hx
  obtain ⟨p2, d2⟩ := D.ok_plainAll m _ hd
  refine ⟨_, D.pyAll ds, r1.dp hx, ?_, p1, p2, by omega, f.now s h (.bl _)⟩
  rcases hy with e | e | e
  · rw [e] at r2; exact .inl (r2.dp (n := m + 1) hd)
  · rw [e] at r2; exact .inl (r2.dp (n := m + 1) hd)
  · rw [e] at r2; exact .inr (r2.dp (n := m + 1) hd)
theorem nb_eq {b : Expr} : behindInMarks .Eq b = false := nobehind b (by decide) (by decide)
theorem nb_ne {b : Expr} : behindInMarks .NotEq b = false := nobehind b (by decide) (by decide)
theorem eqP_i (Fm : Fam F K mg N) (i : I) : OpR (F i) (compareOp .Eq) (rEqP K id) := Fm.K i ▸ op_eqP (Fm.un i)
theorem neP_i (Fm : Fam F K mg N) (i : I) : OpR (F i) (compareOp .NotEq) (rEqP K Bool.not) := Fm.K i ▸ op_neP (Fm.un i)
theorem inP_i (Fm : Fam F K mg N) (i : I) : OpR (F i) (compareOp .In) (rInP K id) := Fm.K i ▸ op_inP (Fm.un i)
theorem notInP_i (Fm : Fam F K mg N) (i : I) : OpR (F i) (compareOp .NotIn) (rInP K Bool.not) := Fm.K i ▸ op_notInP (Fm.un i)

/-! ### numbers -/
theorem od_I0 {g : Int → Int → V} {i j : Int} {d : D} (hg : ∀ H0 ι, Rp K H0 ι (g i j) d) (h : Φ d R) : OD K (rI0 g) (.int i) (.int j) R Φ := fun H0 ι H Q v w s rv rw f => by
  cases rv
  cases rw
  exact ⟨i, j, rfl, rfl, f.now s h (hg _ _)⟩
theorem od_I {C : Int → Int → Prop} {g : Int → Int → V} {i j : Int} {d : D} (hc : C i j) (hg : ∀ H0 ι, Rp K H0 ι (g i j) d) (h : Φ d R) : OD K (rI C g) (.int i) (.int j) R Φ := fun H0 ι H Q v w s rv rw f => by
  cases rv
  cases rw
  exact ⟨i, j, rfl, rfl, hc, f.now s h (hg _ _)⟩

/-! ### is None -/
def rIsNo (f : Bool → Bool) : R2 := fun x y H Q => y = .non ∧ Q (.bl (f (decide (x = .non)))) H
theorem op_isNo {X : Cx} : OpR X (compareOp .Is) (rIsNo id) := op_isN
theorem op_isntNo {X : Cx} : OpR X (compareOp .IsNot) (rIsNo Bool.not) := op_notN
def D.isNon : D → Bool
  | .non => true
  | _ => false
theorem od_isNo {x : D} {f : Bool → Bool} (h : Φ (.bl (f x.isNon)) R) : OD K (rIsNo f) x .non R Φ := fun H0 ι H Q v w s rv rw g => by
  cases rw
  refine ⟨rfl, ?_⟩
  have e : decide (v = .non) = x.isNon := by cases rv <;> first | rfl | simp [D.isNon]
  rw [e]
  exact g.now s h (.bl _)

/-! ### items, slices, sums of lists -/
/-- x is a list of these -/
def Lst (R : Rs) (x : D) (ds : List D) : Prop := x = .lst ds ∨ x = .rd ds ∨ ∃ k, x = .own k ∧ R[k]? = some (.lst ds)
theorem Lst.lst {R : Rs} {ds : List D} : Lst R (.lst ds) ds := .inl rfl
theorem Lst.own {R : Rs} {ds : List D} {k : Nat} (h : R[k]? = some (.lst ds)) : Lst R (.own k) ds := .inr (.inr ⟨k, rfl, h⟩)
theorem Lst.at_ {H0 H : Hp} {ι : List Addr} {v : V} {x : D} {ds : List D} (l : Lst R x ds) (s : SR K H0 ι R H) (r : Rp K H0 ι v x) : ∃ a xs, v = .ref a ∧ SqL K H a xs ∧ RpAll K H0 ι xs ds := by
  rcases l with rfl | rfl | ⟨k, rfl, hk⟩
  · cases r with
    | lst ha ra => exact ⟨_, _, rfl, .inl (.inl (s.ex _ _ ha)), ra⟩
  · cases r with
    | rd ha ra => exact ⟨_, _, rfl, s.ex.seq ha, ra⟩
  · cases r with
    | own hp =>
      obtain ⟨_, xs, hx, ra⟩ := s.at_ _ _ _ hp hk
      exact ⟨_, xs, rfl, .inl (.inl hx), ra⟩
theorem atI_rp {H0 : Hp} {ι : List Addr} {xs : List V} {ds : List D} {i : Int} {d : D} (r : RpAll K H0 ι xs ds) (h : atI ds i = some d) : ∃ v, atI xs i = some v ∧ Rp K H0 ι v d := by
  unfold atI at h ⊢
  rw [r.length]
  cases q : ixN ds.length i with
  | none => rw [q] at h; cases h
  | some j =>
    rw [q] at h
    exact r.get h
theorem od_ixL {ds : List D} {i : Int} {d x : D} (hx : Lst R x ds) (h : atI ds i = some d) (h2 : Φ d R) : OD K (rIxL K) x (.int i) R Φ := fun H0 ι H Q v w s rv rw f => by
  obtain ⟨a, xs, rfl, hs, ra⟩ := hx.at_ s rv
  cases rw
  obtain ⟨u, hu, ru⟩ := atI_rp ra h
  exact ⟨a, xs, i, u, rfl, rfl, hs, hu, f.now s h2 ru⟩
theorem od_ixT {ds : List D} {i : Int} {d : D} (h : atI ds i = some d) (h2 : Φ d R) : OD K (rIxT K) (.tup ds) (.int i) R Φ := fun H0 ι H Q v w s rv rw f => by
  cases rv with
  | tup ha ra =>
    cases rw
    obtain ⟨u, hu, ru⟩ := atI_rp ra h
    exact ⟨_, _, i, u, rfl, rfl, (ha.mono s.ex).sqT, hu, f.now s h2 ru⟩
/-- of a list or a tuple -/
theorem od_ix {ds : List D} {i : Int} {d x : D} (hx : Lst R x ds ∨ x = .tup ds) (h : atI ds i = some d) (h2 : Φ d R) : OD K (rIx K) x (.int i) R Φ := fun H0 ι H Q v w s rv rw f => by
  rcases hx with hx | rfl
  · exact .inl (od_ixL hx h h2 H0 ι H Q v w s rv rw f)
  · exact .inr (.inl (od_ixT h h2 H0 ι H Q v w s rv rw f))
theorem ixSeq_i (Fm : Fam F K mg N) (i : I) : IxR (F i) (rIx K) := Fm.K i ▸ ix_seq
theorem ixL_i (Fm : Fam F K mg N) (i : I) : IxR (F i) (rIxL K) := Fm.K i ▸ ix_list
theorem ixT_i (Fm : Fam F K mg N) (i : I) : IxR (F i) (rIxT K) := Fm.K i ▸ ix_tup

/-! slices -/
def UO {I : Type} (F : I → Cx) (e : Option Expr) : TO := fun σ H Q => ∃ t : TO, (∀ i, PO (F i) e t) ∧ t σ H Q
theorem po_u {e : Option Expr} (i : I) : PO (F i) e (UO F e) := ⟨fun pins s σ H Q I h => by
  obtain ⟨t, ht, q⟩ := h
  exact (ht i).run pins s σ H Q I q⟩
def DO {I : Type} (F : I → Cx) (K : PySem.W.Frag) (e : Option Expr) (ρ : Env) (R : Rs) (Φ : Option Int → Rs → Prop) : Prop := ∀ (H0 : Hp) (ι : List Addr) (σ : L2.St) (H : Hp) (Q : Option Int → Hp → Prop), SR K H0 ι R H → EnvR K H0 ι σ ρ →
  (∀ o R' H0' ι' H', Φ o R' → Step H0 ι H H0' ι' H' → SR K H0' ι' R' H' → Q o H') → UO F e σ H Q
theorem do_none {Φ : Option Int → Rs → Prop} (h : Φ none R) : DO F K none ρ R Φ := fun H0 ι σ H Q s r f => ⟨tNoPart, fun _ => po_none, f none R H0 ι H h (Step.refl _ _ _) s⟩
theorem do_some {Φ : Option Int → Rs → Prop} (h : DE F K e ρ R fun x R1 => ∃ i, x = .int i ∧ Φ (some i) R1) : DO F K (some e) ρ R Φ := fun H0 ι σ H Q s r f => ⟨tPart (UE F e), fun i => po_some (pe_u i), h H0 ι σ H _ s r fun d R1 A B v C hb s1 S1 r1 => by
  obtain ⟨i, rfl, hb⟩ := hb
  cases r1
  exact ⟨i, rfl, f _ R1 A B C hb s1 S1⟩⟩
def SD (K : PySem.W.Frag) (r : V → Option Int → Option Int → Hp → VK → Prop) (x : D) (lo hi : Option Int) (R : Rs) (Φ : Φ1) : Prop := ∀ (H0 : Hp) (ι : List Addr) (H : Hp) (Q : VK) (v : V), SR K H0 ι R H → Rp K H0 ι v x → Fin K H0 ι H Φ Q → r v lo hi H Q
theorem de_slice {lo hi : Option Expr} {p2 : Pos} {r : V → Option Int → Option Int → Hp → VK → Prop} (hr : ∀ i, SlR (F i) r) (h : DE F K e ρ R fun x R1 => DO F K lo ρ R1 fun l R2 => DO F K hi ρ R2 fun u R3 => SD K r x l u R3 Φ) : DE F K (.Subscript e (.Slice lo hi none p2) pos) ρ R Φ :=
  DE.of (t := tSl r (UE F e) (UO F lo) (UO F hi)) (fun i => pe_slice (hr i) (pe_u i) (po_u i) (po_u i)) fun H0 ι σ H Q s r f => h H0 ι σ H _ s r fun d R1 A B v C hb s1 S1 r1 => hb A B σ C _ S1 (r.step s1) fun l R2 A2 B2 C2 hb2 s2 S2 => hb2 A2 B2 σ C2 _ S2 ((r.step s1).step s2) fun u R3 A3 B3 C3 hb3 s3 S3 =>
    hb3 A3 B3 C3 Q v S3 ((r1.step s2).step s3) (((f.step s1).step s2).step s3)
def cutD (ds : List D) (lo hi : Option Int) : List D := (ds.drop (HT.sIx ds.length 0 lo)).take (HT.sIx ds.length ds.length hi - HT.sIx ds.length 0 lo)
theorem RpAll.cutV {H0 : Hp} {ι : List Addr} {xs : List V} {ds : List D} (r : RpAll K H0 ι xs ds) (lo hi : Option Int) : RpAll K H0 ι (L2.cutV xs lo hi) (cutD ds lo hi) := by
  unfold L2.cutV cutD
  rw [r.length]
  exact (r.drop _).take _
theorem sd_list {x : D} {ds : List D} {lo hi : Option Int} (hx : Lst R x ds) (h : Φ (.lst (cutD ds lo hi)) R) : SD K (rSlL K) x lo hi R Φ := fun H0 ι H Q v s rv f => by
  obtain ⟨a, xs, rfl, hs, ra⟩ := hx.at_ s rv
  refine ⟨a, xs, rfl, hs, fun p hp => ?_⟩
  obtain ⟨S2, s2⟩ := s.laid (o := .lst (L2.cutV xs lo hi)) hp
  exact (f.step s2).now S2 h (.lst upd_same ((ra.cutV lo hi).step s2))
theorem cut_id {α : Type} {xs : List α} {lo hi : Option Int} (h : HT.sIx xs.length 0 lo = 0 ∧ HT.sIx xs.length xs.length hi = xs.length) : (xs.drop (HT.sIx xs.length 0 lo)).take (HT.sIx xs.length xs.length hi - HT.sIx xs.length 0 lo) = xs := by
  rw [h.1, h.2, List.drop_zero, Nat.sub_zero, List.take_length]
theorem sd_tup {ds : List D} {lo hi : Option Int} (h : Φ (.tup (cutD ds lo hi)) R) : SD K (rSlA K) (.tup ds) lo hi R Φ := fun H0 ι H Q v s rv f => by
  have rv' := rv
  cases rv with
  | @tup a xs _ ha ra =>
    refine ⟨a, xs, rfl, (ha.mono s.ex).sqT, fun e => ?_, fun _ p hp => ?_⟩
    · have e2 : cutD ds lo hi = ds := cut_id (by rw [← ra.length]; exact e)
      rw [e2] at h
      exact f.now s h rv'
    · obtain ⟨S2, s2⟩ := s.laid (o := .tup (L2.cutV xs lo hi)) hp
      exact (f.step s2).now S2 h (.tup (.inl upd_same) ((ra.cutV lo hi).step s2))
theorem slL_i (Fm : Fam F K mg N) (i : I) : SlR (F i) (rSlL K) := Fm.K i ▸ sl_list
theorem slT_i (Fm : Fam F K mg N) (i : I) : SlR (F i) (rSlA K) := Fm.K i ▸ sl_tupA
/-- of a list or a tuple -/
def rSlU (K : PySem.W.Frag) : V → Option Int → Option Int → Hp → VK → Prop := fun x lo hi H Q => rSlL K x lo hi H Q ∨ rSlA K x lo hi H Q
theorem slU_i (Fm : Fam F K mg N) (i : I) : SlR (F i) (rSlU K) := (slL_i Fm i).or (slT_i Fm i)

/-! sums of lists, of texts -/
theorem od_cat {xs ys : List D} (hz : xs.length + ys.length ≤ sizeLine) (h : Φ (.lst (xs ++ ys)) R) : OD K rCat (.lst xs) (.lst ys) R Φ := fun H0 ι H Q v w s rv rw f => by
  cases rv with
  | lst ha ra =>
    cases rw with
    | lst hb rb =>
      refine ⟨_, _, _, _, rfl, rfl, s.ex _ _ ha, s.ex _ _ hb, ?_, fun p hp => ?_⟩
      · have e1 := ra.length
        have e2 := rb.length
        omega
      · obtain ⟨S2, s2⟩ := s.laid (o := .lst (_ ++ _)) hp
        exact (f.step s2).now S2 h (.lst upd_same ((ra.append rb).step s2))
/-- int + int, list + list -/
def rPlus : R2 := fun x y H Q => rI0 (fun i j => .int (i + j)) x y H Q ∨ rCat x y H Q
theorem op_plus {X : Cx} : OpR X (binaryOp .Add) rPlus := op_add.or op_cat
theorem od_plusI {i j : Int} (h : Φ (.int (i + j)) R) : OD K rPlus (.int i) (.int j) R Φ := fun H0 ι H Q v w s rv rw f => .inl (od_I0 (fun _ _ => .int _) h H0 ι H Q v w s rv rw f)
theorem od_plusL {xs ys : List D} (hz : xs.length + ys.length ≤ sizeLine) (h : Φ (.lst (xs ++ ys)) R) : OD K rPlus (.lst xs) (.lst ys) R Φ := fun H0 ι H Q v w s rv rw f => .inr (od_cat hz h H0 ι H Q v w s rv rw f)

/-! ### built-in functions -/
def D.size (R : Rs) : D → Option Nat
  | .lst ds => some ds.length
  | .rd ds => some ds.length
  | .tup ds => some ds.length
  | .str z => if z.length ≤ sizeLine then some z.length else none
  | .own k => match R[k]? with
    | some (.lst ds) => some ds.length
    | _ => none
  | _ => none
def rLen3 (K : PySem.W.Frag) : List V → Hp → VK → Prop := fun xs H Q => (∃ p ys, xs = [.ref p] ∧ (SqL K H p ys ∨ SqT K H p ys) ∧ Q (.int ys.length) H) ∨ (∃ z, xs = [.str z] ∧ z.length ≤ sizeLine ∧ Q (.int z.length) H)
theorem cr_len {X : Cx} : CallR X (.builtin "len") (rLen3 X.K) := call_len_seq.or call_len_str
theorem cd_len {x : D} {n : Nat} (hn : x.size R = some n) (h : Φ (.int n) R) : CD K (rLen3 K) [x] R Φ := fun H0 ι H Q vs s rs f => by
  have lst : ∀ {ds : List D}, Lst R x ds → n = ds.length → rLen3 K vs H Q := fun {ds} l e => by
    cases rs with
    | cons rv rr =>
      cases rr
      obtain ⟨a, xs, rfl, hs, ra⟩ := l.at_ s rv
      refine .inl ⟨a, xs, rfl, .inl hs, ?_⟩
      rw [ra.length, ← e]
      exact f.now s h (.int _)
  cases x with
  | lst ds => exact lst .lst (Option.some.inj hn).symm
  | rd ds => exact lst (.inr (.inl rfl)) (Option.some.inj hn).symm
  | own k =>
    have hn : (match R[k]? with | some (.lst ds) => some ds.length | _ => none) = some n := hn
    cases q : R[k]? with
    | none => rw [q] at hn; cases hn
    | some r =>
      rw [q] at hn
      cases r with
      | gone => cases hn
      | dic δ => cases hn
      | lst ds => exact lst (.own q) (Option.some.inj hn).symm
  | tup ds =>
    cases rs with
    | cons rv rr =>
      cases rr
      cases rv with
      | tup ha ra =>
        refine .inl ⟨_, _, rfl, .inr (ha.mono s.ex).sqT, ?_⟩
        rw [ra.length, Option.some.inj hn]
        exact f.now s h (.int _)
  | str z =>
    cases rs with
    | cons rv rr =>
      cases rr
      cases rv
      have hn : (if z.length ≤ sizeLine then some z.length else none) = some n := hn
      by_cases hz : z.length ≤ sizeLine
      · rw [if_pos hz] at hn
        refine .inr ⟨z, rfl, hz, ?_⟩
        rw [Option.some.inj hn]
        exact f.now s h (.int _)
      · rw [if_neg hz] at hn; cases hn
  | non => cases hn
  | bl _ => cases hn
  | int _ => cases hn
  | ty _ => cases hn
theorem len_i (Fm : Fam F K mg N) (i : I) : CallR (F i) (.builtin "len") (rLen3 K) := Fm.K i ▸ cr_len
/-- list(x), tuple(x) of a list, a tuple -/
def rListOf (K : PySem.W.Frag) : List V → Hp → VK → Prop := fun xs H Q => ∃ p ys, xs = [.ref p] ∧ (SqL K H p ys ∨ SqT K H p ys) ∧ ∀ l, H l = none → Q (.ref l) (upd H l (.lst ys))
def rTupOf (K : PySem.W.Frag) : List V → Hp → VK → Prop := fun xs H Q => ∃ p ys, xs = [.ref p] ∧ ((SqL K H p ys ∧ ∀ l, H l = none → Q (.ref l) (upd H l (.tup ys))) ∨ (SqT K H p ys ∧ Q (.ref p) H))
theorem listOf_i (Fm : Fam F K mg N) (i : I) : CallR (F i) (.type "list") (rListOf K) := Fm.K i ▸ call_list_of
theorem tupOf_i (Fm : Fam F K mg N) (i : I) : CallR (F i) (.type "tuple") (rTupOf K) := Fm.K i ▸ call_tuple_of
theorem seq_at {H0 H : Hp} {ι : List Addr} {v : V} {x : D} {ds : List D} (l : Lst R x ds ∨ x = .tup ds) (s : SR K H0 ι R H) (r : Rp K H0 ι v x) : ∃ a xs, v = .ref a ∧ (SqL K H a xs ∨ SqT K H a xs) ∧ RpAll K H0 ι xs ds := by
  rcases l with l | rfl
  · obtain ⟨a, xs, e, hs, ra⟩ := l.at_ s r
    exact ⟨a, xs, e, .inl hs, ra⟩
  · cases r with
    | tup ha ra => exact ⟨_, _, rfl, .inr (ha.mono s.ex).sqT, ra⟩
theorem cd_list {x : D} {ds : List D} (hx : Lst R x ds ∨ x = .tup ds) (h : Φ (.lst ds) R) : CD K (rListOf K) [x] R Φ := fun H0 ι H Q vs s rs f => by
  cases rs with
  | cons rv rr =>
    cases rr
    obtain ⟨a, xs, rfl, hs, ra⟩ := seq_at hx s rv
    refine ⟨a, xs, rfl, hs, fun p hp => ?_⟩
    obtain ⟨S2, s2⟩ := s.laid (o := .lst xs) hp
    exact (f.step s2).now S2 h (.lst upd_same (ra.step s2))
/-- a list that is to change -/
theorem cd_listO {x : D} {ds : List D} (hx : Lst R x ds ∨ x = .tup ds) (h : Φ (.own R.length) (R ++ [.lst ds])) : CD K (rListOf K) [x] R Φ := fun H0 ι H Q vs s rs f => by
  cases rs with
  | cons rv rr =>
    cases rr
    obtain ⟨a, xs, rfl, hs, ra⟩ := seq_at hx s rv
    refine ⟨a, xs, rfl, hs, fun p hp => ?_⟩
    obtain ⟨S2, s2, last⟩ := s.place hp ra
    exact (f.step s2).now S2 h (.own last)
theorem cd_tup {x : D} {ds : List D} (hx : Lst R x ds ∨ x = .tup ds) (h : Φ (.tup ds) R) : CD K (rTupOf K) [x] R Φ := fun H0 ι H Q vs s rs f => by
  cases rs with
  | cons rv rr =>
    cases rr
    rcases hx with hx | rfl
    · obtain ⟨a, xs, rfl, hs, ra⟩ := hx.at_ s rv
      refine ⟨a, xs, rfl, .inl ⟨hs, fun p hp => ?_⟩⟩
      obtain ⟨S2, s2⟩ := s.laid (o := .tup xs) hp
      exact (f.step s2).now S2 h (.tup (.inl upd_same) (ra.step s2))
    · have rv' := rv
      cases rv with
      | tup ha ra => exact ⟨_, _, rfl, .inr ⟨(ha.mono s.ex).sqT, f.now s h rv'⟩⟩
/-- all(..), any(..) of a list of bools -/
theorem bools_at {H0 : Hp} {ι : List Addr} : ∀ {xs : List V} {bs : List Bool}, RpAll K H0 ι xs (bs.map .bl) → xs = bs.map .bl
  | _, [], .nil => rfl
  | _, b :: bs, .cons r t => by
    cases r
    rw [bools_at t]
    rfl
theorem all_i (Fm : Fam F K mg N) (i : I) : CallR (F i) (.builtin "all") (rAll K) := Fm.K i ▸ cr_all (Fm.calm i)
theorem any_i (Fm : Fam F K mg N) (i : I) : CallR (F i) (.builtin "any") (rAny K) := Fm.K i ▸ cr_any (Fm.calm i)
theorem cd_all {x : D} {bs : List Bool} (hx : Lst R x (bs.map .bl)) (h : Φ (.bl (bs.all id)) R) : CD K (rAll K) [x] R Φ := fun H0 ι H Q vs s rs f => by
  cases rs with
  | cons rv rr =>
    cases rr
    obtain ⟨a, xs, rfl, hs, ra⟩ := hx.at_ s rv
    have e := bools_at ra
    subst e
    exact ⟨a, bs, rfl, hs, f.now s h (.bl _)⟩
theorem cd_any {x : D} {bs : List Bool} (hx : Lst R x (bs.map .bl)) (h : Φ (.bl (bs.any id)) R) : CD K (rAny K) [x] R Φ := fun H0 ι H Q vs s rs f => by
  cases rs with
  | cons rv rr =>
    cases rr
    obtain ⟨a, xs, rfl, hs, ra⟩ := hx.at_ s rv
    have e := bools_at ra
    subst e
    exact ⟨a, bs, rfl, hs, f.now s h (.bl _)⟩
theorem cd_abs {n : Int} (h : Φ (.int (if n < 0 then -n else n)) R) : CD K (fun xs H Q => ∃ i, xs = [.int i] ∧ Q (.int (if i < 0 then -i else i)) H) [.int n] R Φ := fun H0 ι H Q vs s rs f => by
  cases rs with
  | cons rv rr =>
    cases rr
    cases rv
    exact ⟨n, rfl, f.now s h (.int _)⟩
theorem cd_int {n : Int} (h : Φ (.int n) R) : CD K (fun xs H Q => (∃ i, xs = [.int i] ∧ Q (.int i) H) ∨ ∃ k, xs = [.bl k] ∧ Q (.int (if k then 1 else 0)) H) [.int n] R Φ := fun H0 ι H Q vs s rs f => by
  cases rs with
  | cons rv rr =>
    cases rr
    cases rv
    exact .inl ⟨n, rfl, f.now s h (.int _)⟩

/-! ### isinstance -/
def D.tyN : D → String
  | .non => "NoneType"
  | .bl _ => "bool"
  | .int _ => "int"
  | .str _ => "str"
  | .tup _ => "tuple"
  | .lst _ => "list"
  | .rd _ => "list"
  | .own _ => "list"
  | .ty _ => "type"
def D.isTy : D → Bool
  | .ty _ => true
  | _ => false
theorem tyx_of {H0 H : Hp} {ι : List Addr} {v : V} {x : D} (s : SR K H0 ι R H) (r : Rp K H0 ι v x) (hx : x.isTy = false) (hg : ∀ k, x = .own k → ∃ ds, R[k]? = some (.lst ds)) : TyX K H v (.type x.tyN) := by
  cases r with
  | non => exact .base .non
  | bl b => exact .base (.bl b)
  | int i => exact .base (.int i)
  | str z => exact .base (.str z)
  | ty n => cases hx
  | lst ha _ => exact .base (.lst (s.ex _ _ ha))
  | rd ha _ =>
    rcases s.ex.seq ha with (h | ⟨o, h⟩) | ⟨o, its, n, h, c, _⟩
    · exact .base (.lst h)
    · exact .base (.frz h)
    · exact .kList h c
  | tup ha _ =>
    rcases ha.mono s.ex with h | ⟨o, its, n, h, c, _⟩
    · exact .base (.tup h)
    · exact .kTuple h c
  | @own k a hk =>
    obtain ⟨ds, hr⟩ := hg k rfl
    obtain ⟨_, xs, hx, _⟩ := s.at_ k a _ hk hr
    exact .base (.lst hx)
def Live (R : Rs) (x : D) : Prop := x.isTy = false ∧ ∀ k, x = .own k → ∃ ds, R[k]? = some (.lst ds)
theorem cd_isi {x : D} {n : String} {b : Bool} (hx : Live R x) (hb : kitB x.tyN n = some b) (h : Φ (.bl b) R) : CD K (rIsi K) [x, .ty n] R Φ := fun H0 ι H Q vs s rs f => by
  cases rs with
  | cons rv rr =>
    cases rr with
    | cons rt rr =>
      cases rr
      cases rt
      exact ⟨_, _, _, _, b, rfl, .ty n, tyx_of s rv hx.1 hx.2, kit_ty hb, f.now s h (.bl _)⟩
theorem isi_i (Fm : Fam F K mg N) (i : I) : CallR (F i) (.builtin "isinstance") (rIsi K) := Fm.K i ▸ call_isi
def rIsi2 (K : PySem.W.Frag) : List V → Hp → VK → Prop := fun xs H Q => rIsiT K xs H Q
theorem isiT_i (Fm : Fam F K mg N) (i : I) : CallR (F i) (.builtin "isinstance") (rIsiT K) := Fm.K i ▸ call_isiT
theorem tys_at {H0 : Hp} {ι : List Addr} : ∀ {ns : List String} {vs : List V}, RpAll K H0 ι vs (ns.map .ty) → vs = ns.map .ty
  | [], _, .nil => rfl
  | n :: ns, _, .cons q t => by
    cases q
    rw [tys_at t]
    rfl
theorem cls_tys : ∀ ns : List String, Paired ClsV (ns.map V.ty) (ns.map Value.type)
  | [] => .nil
  | n :: ns => .cons (.ty n) (cls_tys ns)
/-- isinstance(x, (T1, ..)), the tuple written in the call -/
theorem de_isiT {es : List Expr} {ns : List String} {k1 : Nat} {p1 p2 : Pos} {f : D → Bool} (Fm : Fam F K mg N) (hg : ∀ i, Gl (F i) "isinstance") (hm : mg "isinstance" = none)
    (h : DE F K e ρ R fun x R1 => DA F K es ρ R1 fun ts R2 => ts = ns.map .ty ∧ ns.length ≤ 1000 ∧ Live R2 x ∧ (∀ (K : PySem.W.Frag), PySem.W.kitAny K (.type x.tyN) (ns.map .type) = some (f x)) ∧ Φ (.bl (f x)) R2)
    (hst : ∀ i, starEach [e, .Tuple es k1 p1] (F i).env = (false, eval e (F i).env) :: starEach [.Tuple es k1 p1] (F i).env := by intro _; rfl) (hst2 : ∀ i, starEach [.Tuple es k1 p1] (F i).env = (false, eval (.Tuple es k1 p1) (F i).env) :: starEach [] (F i).env := by intro _; rfl)
    (hpl : ∀ i, (backTo pos (starEach [.Tuple es k1 p1] (F i).env)).any (·.1) = false := by intro _; rfl) : DE F K (.Call (.Name "isinstance" p2) [e, .Tuple es k1 p1] [] pos) ρ R Φ :=
  DE.of (t := tCB (rIsiT K) (tCons (UE F e) (tCons (tTup (UA F es)) tNil))) (fun i => pe_callB (isiT_i Fm i) (hg i) (by rw [Fm.mg i]; exact hm) (by decide +kernel) (pa_cons (pe_u i) (pa_cons (pe_tup (pa_u i)) pa_nil (hst2 i)) (hst i)) (he := hst i) (hpl := hpl i)) fun H0 ι σ H Q s r f' => h H0 ι σ H _ s r fun x R1 A B v C hb s1 S1 r1 =>
    hb A B σ C _ S1 (r.step s1) fun ts R2 A2 B2 vs C2 ht s2 S2 r2 => by
      obtain ⟨rfl, hz, hl, hk, hp⟩ := ht
      have e2 : vs = ns.map .ty := tys_at r2
      subst e2
      refine ⟨?_, fun p hp2 => ?_⟩
      · have hl : (ns.map V.ty).length ≤ ns.length := by simp
        have e := sizeLine_eq
        omega
      · obtain ⟨S3, s3⟩ := S2.litter (o := .tup (ns.map .ty)) hp2
        refine ⟨v, p, ns.map .ty, .type x.tyN, ns.map .type, f x, rfl, upd_same, ?_, tyx_of S3 ((r1.step s2).step s3) hl.1 hl.2, hk K, (((f'.step s1).step s2).step s3).now S3 hp (.bl _)⟩
        exact cls_tys ns
end
end DL
namespace DL
open PySem PySem.Spec PyProof.Rows L2
/-! ### enumerate, zip over tuples -/
theorem newClass_enum (a : Value) : Builtin.SmallTypes.newClass "enumerate" ⟨[.type "enumerate", a], []⟩ = pure (.type "enumerate", [a]) := by
  with_unfolding_all rfl
theorem called_any {M : Model} {A : Around} {E : Value → Shared → Prop} {s : Shared} {c : Value} {Q : Bool → Shared → Prop} (h : ∀ b, Q b s) : wpAny M A (Builtin.SmallTypes.calledThroughType c) Q E s := by
  unfold Builtin.SmallTypes.calledThroughType
  exact wpAny_bind (wpAny_stack_any fun st => wpAny_pure (h _))
theorem meets_enum1 {v : Value} {o : Obj} {H : Heap → Prop} (b : Begins v o H) : Meets (Builtin.«enumerate.__new__» ⟨[.type "enumerate", v], []⟩) fun A R s => H s.heap ∧ R (.ok (.ret (.ref (s.heap.push o).objs.size))) { heap := (s.heap.push o).push { cls := .type "enumerate", data := .fields #[.none, .bool false, .ref s.heap.objs.size, rawInt 0, .none, .none] }, gens := s.gens, drawn := s.drawn, toks := s.toks, os := s.os } := by
  intro prog w A R s h
  obtain ⟨hs, hr⟩ := h
  unfold Builtin.«enumerate.__new__»
  rw [newClass_enum]
  simp only [pure_bind, beq_self_eq_true, if_true]
  refine wpAny_bind (called_any fun bb => ?_)
  have key : wpAny (model prog w) A.in1 (pyIter v >>= fun x => Builtin.SmallTypes.newRecord (Value.type "enumerate") (Builtin.SmallTypes.ownedTupleFields ++ [x, rawInt 0, Value.none, Value.none]) >>= fun y => ret y) (fun fin s' =>
          match fin with
          | Fin.done f => R (Except.ok f) s'
          | Fin.again c' => c'.quiet = true ∧ codeAny (model prog w) A c' R s')
        (fun e s' => R (Except.error e) s') s := by
    refine wpAny_bind (b.iter _ _ _ _ _ _ hs ?_)
    refine wpAny_bind (wpAny_newObj_type (T := "enumerate") (data := .fields #[.none, .bool false, .ref s.heap.objs.size, rawInt 0, .none, .none]) (dict := none) ?_ (by show 6 ≤ sizeLine + 2; rw [sizeLine_eq]; decide))
    exact wpAny_pure hr
  cases bb with
  | true => exact key
  | false => exact key
theorem call_enum_any {prog : Program} {w : World} {A : Around} {E : Value → Shared → Prop} {s : Shared} {v : Value} {o : Obj} {H : Heap → Prop} {Q : Value → Shared → Prop} (b : Begins v o H) (hs : H s.heap)
    (q : ∀ h' : Heap, IsEnum h' (s.heap.objs.size + 1) s.heap.objs.size 0 .none → h'.get? s.heap.objs.size = some o → h'.objs.size = s.heap.objs.size + 2 → (∀ (b : Addr) (o : Obj), s.heap.get? b = some o → h'.get? b = some o) →
      Q (.ref (s.heap.objs.size + 1)) { heap := h', gens := s.gens, drawn := s.drawn, toks := s.toks, os := s.os }) : wpAny (model prog w) A (PySem.call (.type "enumerate") [v]) Q E s := by
  refine callType_new F.called_enumerate (by decide) (F.typeCall_enumerate_1 v) (F.newCall_enumerate_1 v) (fun obj => F.args_object_init_2 obj v) F.entry_enumerate_new (meets_enum1 b) ?_
  have e1 : ((s.heap.push o).push { cls := .type "enumerate", data := .fields #[.none, .bool false, .ref s.heap.objs.size, rawInt 0, .none, .none] }).get? (s.heap.objs.size + 1) = some { cls := .type "enumerate", data := .fields #[.none, .bool false, .ref s.heap.objs.size, rawInt 0, .none, .none] } :=
    Heap.get?_push_at (by rw [Heap.size_push]) rfl
  refine ⟨hs, ?_, ?_⟩
  · rw [Heap.size_push]
    exact ⟨_, e1, rfl⟩
  · rw [Heap.size_push]
    exact q _ e1 (Heap.get?_push_of_some _ (Heap.get?_push_size _ b.free)) (by rw [Heap.size_push, Heap.size_push]) fun c o' h => Heap.get?_push_of_some _ (Heap.get?_push_of_some _ h)
/-- enumerate(t), t a tuple -/
def IteT (K : PySem.W.Frag) (a : Addr) : It where
  go := fun i H => ∃ xs x, SqT K H a xs ∧ xs[i]? = some x
  yld := fun i H v H' => ∃ T x, v = .ref T ∧ H T = none ∧ H' = upd H T (.tup [.int (i : Nat), x]) ∧ ∀ xs, SqT K H a xs → xs[i]? = some x
  stop := fun i H => ∃ xs, SqT K H a xs ∧ xs.length = i
theorem vals_at : ∀ {xs : List V} {us : List Value} {i : Nat} {u : Value}, Vals xs us → us[i]? = some u → ∃ x, xs[i]? = some x ∧ L2.RelV x u
  | _, _, _, _, .nil, e => by simp at e
  | _, _, 0, _, .cons r _, e => by simp at e; subst e; exact ⟨_, rfl, r⟩
  | _, _, i + 1, u, .cons _ t, e => by
    obtain ⟨x, h1, h2⟩ := vals_at (i := i) (u := u) t (by simpa using e)
    exact ⟨x, by simpa using h1, h2⟩
theorem relV_tup2 {P : Program} {w : World} {H : Hp} {h : Heap} {T : Addr} {x y : V} {u v : Value} (ht : h.IsTuple T #[u, v]) (r1 : L2.RelV x u) (r2 : L2.RelV y v) (hz : (2 : Nat) ≤ sizeLine := by rw [sizeLine_eq]; decide) : ObjOk P w H h T (.tup [x, y]) := ⟨hz, [u, v], .cons r1 (.cons r2 .nil), ht⟩
theorem turn_enumT {P : Program} {w : World} {K : PySem.W.Frag} {elts : List Expr} {kk : Nat} {tpos : Pos} (a e it : Addr) : Turn P w K (.Tuple elts kk tpos) (IteT K a) [e, it] e fun i h => (∃ old, IsEnum h e it (i : Nat) old) ∧ h.IsTupleIter it a i ∧ e ≠ it where
  mem := by simp
  obj := fun i h ⟨⟨old, h1⟩, ⟨o, h2, h3, h4⟩, _⟩ b hb => by
    simp only [List.mem_cons, List.not_mem_nil, or_false] at hb
    rcases hb with rfl | rfl
    · exact ⟨_, h1, fun v z => nomatch z⟩
    · exact ⟨o, h2, fun v z => by rw [h4] at z; cases z⟩
  keep := fun i h h' ⟨⟨old, h1⟩, ⟨o, h2, h3, h4⟩, h5⟩ hk => ⟨⟨old, hk e (by simp) _ h1⟩, ⟨o, hk it (by simp) _ h2, h3, h4⟩, h5⟩
  item := fun X hP hw hK hc i pins s σ H E I hf ht hg => by
    obtain ⟨⟨old, h1⟩, h2, h3⟩ := ht
    obtain ⟨xs, x, hS, hx⟩ := hg
    subst hP hw hK
    obtain ⟨its, hv, hT, hl⟩ := I.tuple hS
    have hh := I.ok.hd hc
    have ne1 : a ≠ it := fun z => by
      subst z
      obtain ⟨o, q1, q2, q3⟩ := h2
      obtain ⟨o', q4, q5, n, q6⟩ := hT
      rw [q1] at q4
      cases q4
      rw [q2] at q5
      exact absurd (Value.type.inj q5) (by decide)
    have ne2 : a ≠ e := fun z => by
      subst z
      obtain ⟨o', q4, q5, n, q6⟩ := hT
      rw [h1] at q4
      cases q4
      exact absurd (Value.type.inj q5) (by decide)
    have W := WalksT.enumFrom (prog := X.prog) (w := X.w) (A := X.A) 0 (Draws.tuple (A := X.A.in1) hh it a ne1 its.toArray) e h3 (by simp [Ne.symm ne2, h3]) (by simp)
    have hi : i < its.toArray.size := by
      have := hv.length
      have := (List.getElem?_eq_some_iff.mp hx).1
      simp
      omega
    refine W.item i s _ E hi ⟨⟨old, by simpa using h1⟩, h2, hT⟩ fun T vals h' tk hp hT2 hT3 hmid hun => ?_
    obtain ⟨t, u, hu, rfl⟩ := hp
    refine ⟨_, rfl, W.go elts kk tpos i T _ _ E hmid fun h'' hst hun2 => ?_⟩
    obtain ⟨x', hx', rx⟩ := vals_at (i := i) (u := u) hv (by simpa using hu)
    have ex : x' = x := by rw [hx] at hx'; exact (Option.some.inj hx').symm
    subst ex
    have hTf : H T = none := by
      cases q : H T with
      | none => rfl
      | some o => exact absurd (I.hok.lt q) (Nat.not_lt.mpr hT2)
    have hTn := W.apart i T h' hmid
    have hT4 : h''.IsTuple T #[.int (0 + (i : Int)) t, u] := by
      obtain ⟨o, q1, q2⟩ := hT3
      exact ⟨o, hun2 T o hTn q1, q2⟩
    have I2 : L2.Inv X pins σ (upd H T (.tup [.int (i : Nat), x'])) { heap := h'', gens := s.gens, drawn := s.drawn, toks := tk, os := s.os } :=
      I.turnedNew (ch := [e, it]) (fun b o hb hg => hun2 b o hb (hun b o hb hg)) hf hT2 (relV_tup2 hT4 ⟨t, by rw [Int.zero_add]⟩ rx)
    refine ⟨.ref T, _, I2, rfl, ⟨T, x', rfl, hTf, rfl, fun ys hy => ?_⟩, ⟨?_, hst.2.1, h3⟩, fun b hb => ?_⟩
    · rw [I.tuple_inj hy hS]
      exact hx
    · obtain ⟨old2, q⟩ := hst.1
      exact ⟨old2, by simpa using q⟩
    · have hb0 := (hf b hb).1
      have : b ≠ T := fun z => hTn (by subst z; exact hb)
      rw [upd_ne this]
      exact hb0
  done := fun X hP hw hK hc i pins s σ H E I hf ht hg => by
    obtain ⟨⟨old, h1⟩, h2, h3⟩ := ht
    obtain ⟨xs, hS, hx⟩ := hg
    subst hP hw hK
    obtain ⟨its, hv, hT, hl⟩ := I.tuple hS
    have hh := I.ok.hd hc
    have ne1 : a ≠ it := fun z => by
      subst z
      obtain ⟨o, q1, q2, q3⟩ := h2
      obtain ⟨o', q4, q5, n, q6⟩ := hT
      rw [q1] at q4
      cases q4
      rw [q2] at q5
      exact absurd (Value.type.inj q5) (by decide)
    have ne2 : a ≠ e := fun z => by
      subst z
      obtain ⟨o', q4, q5, n, q6⟩ := hT
      rw [h1] at q4
      cases q4
      exact absurd (Value.type.inj q5) (by decide)
    have W := WalksT.enumFrom (prog := X.prog) (w := X.w) (A := X.A) 0 (Draws.tuple (A := X.A.in1) hh it a ne1 its.toArray) e h3 (by simp [Ne.symm ne2, h3]) (by simp)
    have hi : i = its.toArray.size := by
      have := hv.length
      simp
      omega
    refine W.done s _ E ⟨⟨old, by rw [← hi]; simpa using h1⟩, hi ▸ h2, hT⟩ fun h' tk hun => ⟨rfl, I.turnedL (ch := [e, it]) hun hf⟩
  self := fun A i s Q E ⟨⟨old, h1⟩, _, _⟩ q => wpAny_pyIter_enum h1 q
def iEnumT (K : PySem.W.Frag) (ta : TA) : TI := fun σ H R => ta σ H fun vs H1 => ∃ a xs, vs = [.ref a] ∧ SqT K H1 a xs ∧ R (IteT K a) H1
theorem pi_enumT {X : Cx} {e : Expr} {ta : TA} {p pos tpos : Pos} {elts : List Expr} {kk : Nat} (hg : Gl X "enumerate") (hm : X.mg "enumerate" = none) (ha : PA X [e] ta) (hst : starEach [e] X.env = [(false, eval e X.env)] := by rfl) :
    PI X (.Tuple elts kk tpos) (.Call (.Name "enumerate" p) [e] [] pos) (iEnumT X.K ta) := ⟨fun pins s σ H R I h => by
  refine wpAny_Call_NameR (wpAny_mono ((pe_bltn (v := .ty "enumerate") (u := .type "enumerate") (pos := p) hg hm (by decide +kernel) rfl).run pins s σ H (fun v H' => v = .ty "enumerate" ∧ H' = H) I ⟨rfl, rfl⟩) (fun u s1 hu => ?_) fun _ _ h => h)
  obtain ⟨v, H1, I1, rv, rfl, rfl⟩ := hu
  cases rv
  refine Pv.callWith_type1 (wpAny_mono (ha.run pos pins s1 σ H1 _ I1 h) (fun us s2 hq => ?_) fun _ _ h => h) hst (by rfl)
  obtain ⟨vs, H2, I2, rvs, a, xs, rfl, hS, hR⟩ := hq
  cases rvs with
  | cons r0 rr =>
    cases rr
    cases r0
    obtain ⟨its, hv, hT, hl⟩ := I2.tuple hS
    refine call_enum_any (begins_tuple a its.toArray) hT fun h' e1 e2 e3 e4 => ?_
    refine wpAny_pyIter_enum e1 ?_
    have I3 := I2.kept (t' := s2.toks) e4
    refine ⟨s2.heap.objs.size + 1, _, _, IteT X.K a, H2, rfl, I3, turn_enumT a (s2.heap.objs.size + 1) s2.heap.objs.size, ⟨⟨_, e1⟩, ⟨_, e2, rfl, rfl⟩, Nat.succ_ne_self _⟩, fun b hb => ?_, hR⟩
    have hb2 : s2.heap.objs.size ≤ b := by
      simp only [List.mem_cons, List.not_mem_nil, or_false] at hb
      rcases hb with rfl | rfl
      · exact Nat.le_succ _
      · exact Nat.le_refl _
    refine I2.fpOk hb2 ?_
    cases q : H2 b with
    | none => rfl
    | some o => exact absurd (I2.hok.lt q) (Nat.not_lt.mpr hb2)⟩
theorem get_lt {h : Heap} {a : Addr} {o : Obj} (e : h.get? a = some o) : a < h.objs.size := by
  unfold Heap.get? at e
  by_cases hl : a < h.objs.size
  · exact hl
  · have hl2 : h.objs.size ≤ a := Nat.le_of_not_lt hl
    rw [Array.getElem?_eq_none hl2] at e
    cases e
/-- zip(t, u), both tuples -/
def ItzT (K : PySem.W.Frag) (a b : Addr) : It where
  go := fun i H => ∃ xs ys x y, SqT K H a xs ∧ SqT K H b ys ∧ xs[i]? = some x ∧ ys[i]? = some y
  yld := fun i H v H' => ∃ T x y, v = .ref T ∧ H T = none ∧ H' = upd H T (.tup [x, y]) ∧ (∀ xs, SqT K H a xs → xs[i]? = some x) ∧ ∀ ys, SqT K H b ys → ys[i]? = some y
  stop := fun i H => ∃ xs ys, SqT K H a xs ∧ SqT K H b ys ∧ i = min xs.length ys.length
theorem apart_cls {h : Heap} {a b : Addr} {o : Obj} {its : Array Value} {T : String} (ht : h.IsTuple a its) (hb : h.get? b = some o) (hc : o.cls = .type T) (hT : T ≠ "tuple") : a ≠ b := fun z => by
  subst z
  obtain ⟨o', q1, q2, n, q3⟩ := ht
  rw [hb] at q1
  cases q1
  rw [hc] at q2
  exact absurd (Value.type.inj q2) hT
structure ZFacts (h : Heap) (z TI TO i1 i2 a b : Addr) (i : Nat) : Prop where
  fz : IsZip h z TI TO .none
  fti : IsTupOf2 h TI (.ref i1) (.ref i2)
  fto : ∃ x y, IsTupOf2 h TO x y
  f1 : h.IsTupleIter i1 a i
  f2 : h.IsTupleIter i2 b i
  d1 : TI ≠ TO
  d2 : i1 ≠ i2
  d3 : a ≠ TO
  d4 : b ≠ TO
theorem ZFacts.sep {h : Heap} {z TI TO i1 i2 a b : Addr} {i : Nat} (F : ZFacts h z TI TO i1 i2 a b i) {xs ys : Array Value} (ha : h.IsTuple a xs) (hb : h.IsTuple b ys) : ZipSep2 z TI TO i1 i2 [i1, a] [i2, b] := by
  obtain ⟨o1, p1, p2, p3⟩ := F.f1
  obtain ⟨o2, r1, r2, r3⟩ := F.f2
  obtain ⟨x, y, ht⟩ := F.fto
  have tz : h.IsTuple TI #[.ref i1, .ref i2] := ⟨_, F.fti, rfl, _, rfl⟩
  have tt : h.IsTuple TO #[x, y] := ⟨_, ht, rfl, _, rfl⟩
  have z1 : i1 ≠ z := fun e => by
    subst e
    have q : h.get? i1 = _ := F.fz
    rw [p1] at q
    cases q
    exact absurd (Value.type.inj p2) (by decide)
  have z2 : i2 ≠ z := fun e => by
    subst e
    have q : h.get? i2 = _ := F.fz
    rw [r1] at q
    cases q
    exact absurd (Value.type.inj r2) (by decide)
  exact {
    TIz := apart_cls tz F.fz rfl (by decide)
    TOz := apart_cls tt F.fz rfl (by decide)
    TITO := F.d1
    TIi1 := apart_cls tz p1 p2 (by decide)
    mem1 := by simp
    zf1 := by simp [Ne.symm z1, Ne.symm (apart_cls ha F.fz rfl (by decide))]
    Tf1 := by simp [apart_cls tt p1 p2 (by decide), Ne.symm F.d3]
    TIi2 := apart_cls tz r1 r2 (by decide)
    mem2 := by simp
    zf2 := by simp [Ne.symm z2, Ne.symm (apart_cls hb F.fz rfl (by decide))]
    Tf2 := by simp [apart_cls tt r1 r2 (by decide), Ne.symm F.d4]
    sep1_2 := by simp [F.d2, Ne.symm (apart_cls hb p1 p2 (by decide))]
    sep2_1 := by simp [Ne.symm F.d2, Ne.symm (apart_cls ha r1 r2 (by decide))] }
theorem turn_zipT {P : Program} {w : World} {K : PySem.W.Frag} {elts : List Expr} {kk : Nat} {tpos : Pos} (a b z TI TO i1 i2 : Addr) : Turn P w K (.Tuple elts kk tpos) (ItzT K a b) [z, TI, TO, i1, i2] z fun i h => ZFacts h z TI TO i1 i2 a b i where
  mem := by simp
  obj := fun i h F c hb => by
    obtain ⟨o1, p1, p2, p3⟩ := F.f1
    obtain ⟨o2, r1, r2, r3⟩ := F.f2
    obtain ⟨x, y, ht⟩ := F.fto
    simp only [List.mem_cons, List.not_mem_nil, or_false] at hb
    rcases hb with rfl | rfl | rfl | rfl | rfl
    · exact ⟨_, F.fz, fun v z => nomatch z⟩
    · exact ⟨_, F.fti, fun v z => nomatch z⟩
    · exact ⟨_, ht, fun v z => nomatch z⟩
    · exact ⟨_, p1, fun v z => by rw [p3] at z; cases z⟩
    · exact ⟨_, r1, fun v z => by rw [r3] at z; cases z⟩
  keep := fun i h h' F hk => by
    obtain ⟨o1, p1, p2, p3⟩ := F.f1
    obtain ⟨o2, r1, r2, r3⟩ := F.f2
    obtain ⟨x, y, ht⟩ := F.fto
    exact ⟨hk z (by simp) _ F.fz, hk TI (by simp) _ F.fti, ⟨x, y, hk TO (by simp) _ ht⟩, ⟨o1, hk i1 (by simp) _ p1, p2, p3⟩, ⟨o2, hk i2 (by simp) _ r1, r2, r3⟩, F.d1, F.d2, F.d3, F.d4⟩
  item := fun X hP hw hK hc i pins s σ H E I hf F hg => by
    obtain ⟨xs, ys, x, y, hS, hS2, hx, hy⟩ := hg
    subst hP hw hK
    obtain ⟨its, hv, hT, hl⟩ := I.tuple hS
    obtain ⟨its2, hv2, hT2, hl2⟩ := I.tuple hS2
    have hh := I.ok.hd hc
    have sep := F.sep hT hT2
    have n1 : a ≠ i1 := fun e => by
      obtain ⟨o1, p1, p2, p3⟩ := F.f1
      exact apart_cls hT p1 p2 (by decide) e
    have n2 : b ≠ i2 := fun e => by
      obtain ⟨o1, p1, p2, p3⟩ := F.f2
      exact apart_cls hT2 p1 p2 (by decide) e
    have W := WalksT.zipD2 (prog := X.prog) (w := X.w) (A := X.A) sep (Draws.tuple (A := X.A.in1) hh i1 a n1 its.toArray) (Draws.tuple (A := X.A.in1) hh i2 b n2 its2.toArray)
    have hi : i < min its.toArray.size its2.toArray.size := by
      have := hv.length
      have := hv2.length
      have := (List.getElem?_eq_some_iff.mp hx).1
      have := (List.getElem?_eq_some_iff.mp hy).1
      simp
      omega
    refine W.item i s _ E hi ⟨F.fz, F.fti, F.fto, ⟨F.f1, hT⟩, ⟨F.f2, hT2⟩⟩ fun T vals h' tk hp hTz hT3 hmid hun => ?_
    obtain ⟨u1, u2, hu1, hu2, rfl⟩ := hp
    refine ⟨_, rfl, W.go elts kk tpos i T _ _ E hmid fun h'' hst hun2 => ?_⟩
    obtain ⟨x', hx', rx⟩ := vals_at (i := i) (u := u1) hv (by simpa using hu1)
    obtain ⟨y', hy', ry⟩ := vals_at (i := i) (u := u2) hv2 (by simpa using hu2)
    have ex : x' = x := by rw [hx] at hx'; exact (Option.some.inj hx').symm
    have ey : y' = y := by rw [hy] at hy'; exact (Option.some.inj hy').symm
    subst ex ey
    have hTf : H T = none := by
      cases q : H T with
      | none => rfl
      | some o => exact absurd (I.hok.lt q) (Nat.not_lt.mpr hTz)
    have hTn := W.apart i T h' hmid
    have hT4 : h''.IsTuple T #[u1, u2] := by
      obtain ⟨o, q1, q2⟩ := hT3
      exact ⟨o, hun2 T o hTn q1, q2⟩
    have sub : ∀ c, c ∈ [z, TO, i1, i2] → c ∈ [z, TI, TO, i1, i2] := fun c hc => by simp at hc ⊢; rcases hc with h | h | h | h <;> simp [h]
    have hf2 : ∀ c ∈ [z, TO, i1, i2], FpOk X pins H c := fun c hc => hf c (sub c hc)
    have I2 : L2.Inv X pins σ (upd H T (.tup [x', y'])) { heap := h'', gens := s.gens, drawn := s.drawn, toks := tk, os := s.os } :=
      I.turnedNew (ch := [z, TO, i1, i2]) (fun b o hb hg => hun2 b o hb (hun b o hb hg)) hf2 hTz (relV_tup2 hT4 rx ry)
    refine ⟨.ref T, _, I2, rfl, ⟨T, x', y', rfl, hTf, rfl, fun zs hz => by rw [I.tuple_inj hz hS]; exact hx, fun zs hz => by rw [I.tuple_inj hz hS2]; exact hy⟩, ?_, fun c hc => ?_⟩
    · exact ⟨hst.1, hst.2.1, hst.2.2.1, hst.2.2.2.1.1, hst.2.2.2.2.1, F.d1, F.d2, F.d3, F.d4⟩
    · have hb0 := (hf c hc).1
      have : c ≠ T := fun e => by
        subst e
        have lt : c < s.heap.objs.size := by
          obtain ⟨o1, p1, p2, p3⟩ := F.f1
          obtain ⟨o2, r1, r2, r3⟩ := F.f2
          obtain ⟨x, y, ht⟩ := F.fto
          simp only [List.mem_cons, List.not_mem_nil, or_false] at hc
          rcases hc with rfl | rfl | rfl | rfl | rfl
          · exact get_lt F.fz
          · exact get_lt F.fti
          · exact get_lt ht
          · exact get_lt p1
          · exact get_lt r1
        exact Nat.not_lt.mpr hTz lt
      rw [upd_ne this]
      exact hb0
  done := fun X hP hw hK hc i pins s σ H E I hf F hg => by
    obtain ⟨xs, ys, hS, hS2, hx⟩ := hg
    subst hP hw hK
    obtain ⟨its, hv, hT, hl⟩ := I.tuple hS
    obtain ⟨its2, hv2, hT2, hl2⟩ := I.tuple hS2
    have hh := I.ok.hd hc
    have sep := F.sep hT hT2
    have n1 : a ≠ i1 := fun e => by
      obtain ⟨o1, p1, p2, p3⟩ := F.f1
      exact apart_cls hT p1 p2 (by decide) e
    have n2 : b ≠ i2 := fun e => by
      obtain ⟨o1, p1, p2, p3⟩ := F.f2
      exact apart_cls hT2 p1 p2 (by decide) e
    have W := WalksT.zipD2 (prog := X.prog) (w := X.w) (A := X.A) sep (Draws.tuple (A := X.A.in1) hh i1 a n1 its.toArray) (Draws.tuple (A := X.A.in1) hh i2 b n2 its2.toArray)
    have hi : i = min its.toArray.size its2.toArray.size := by
      have := hv.length
      have := hv2.length
      simp
      omega
    refine W.done s _ E ⟨F.fz, F.fti, F.fto, ⟨hi ▸ F.f1, hT⟩, ⟨hi ▸ F.f2, hT2⟩⟩ fun h' tk hun => ⟨rfl, I.turnedL (ch := [z, TO, i1, i2]) hun fun c hc => hf c (by simp at hc ⊢; rcases hc with h | h | h | h <;> simp [h])⟩
  self := fun A i s Q E F q => wpAny_pyIter_zip F.fz q
def iZipT (K : PySem.W.Frag) (ta : TA) : TI := fun σ H R => ta σ H fun vs H1 => ∃ a b xs ys, vs = [.ref a, .ref b] ∧ SqT K H1 a xs ∧ SqT K H1 b ys ∧ R (ItzT K a b) H1
theorem pi_zipT {X : Cx} {e e2 : Expr} {ta : TA} {p pos tpos : Pos} {elts : List Expr} {kk : Nat} (hg : Gl X "zip") (hm : X.mg "zip" = none) (ha : PA X [e, e2] ta) (hst : starEach [e, e2] X.env = (false, eval e X.env) :: starEach [e2] X.env := by rfl) (hpl : ((backTo pos (starEach [e2] X.env)).any fun x => x.fst) = false := by rfl) :
    PI X (.Tuple elts kk tpos) (.Call (.Name "zip" p) [e, e2] [] pos) (iZipT X.K ta) := ⟨fun pins s σ H R I h => by
  refine wpAny_Call_NameR (wpAny_mono ((pe_bltn (v := .ty "zip") (u := .type "zip") (pos := p) hg hm (by decide +kernel) rfl).run pins s σ H (fun v H' => v = .ty "zip" ∧ H' = H) I ⟨rfl, rfl⟩) (fun u s1 hu => ?_) fun _ _ h => h)
  obtain ⟨v, H1, I1, rv, rfl, rfl⟩ := hu
  cases rv
  refine Pv.callWith_type1 (wpAny_mono (ha.run pos pins s1 σ H1 _ I1 h) (fun us s2 hq => ?_) fun _ _ h => h) hst hpl
  obtain ⟨vs, H2, I2, rvs, a, b, xs, ys, rfl, hS, hS2, hR⟩ := hq
  cases rvs with
  | cons r0 rr =>
    cases rr with
    | cons r1 rr =>
      cases rr
      cases r0
      cases r1
      obtain ⟨its, hv, hT, hl⟩ := I2.tuple hS
      obtain ⟨its2, hv2, hT2, hl2⟩ := I2.tuple hS2
      refine zip_begins2 (begins_tuple a its.toArray) (begins_tuple b its2.toArray) hT hT2 fun h' e1 e2 e3 e4 e5 e6 e7 => ?_
      refine wpAny_pyIter_zip e1 ?_
      have I3 := I2.kept (t' := s2.toks) e7
      obtain ⟨oa, qa, _⟩ := hT
      obtain ⟨ob, qb, _⟩ := hT2
      have la := get_lt qa
      have lb := get_lt qb
      refine ⟨s2.heap.objs.size + 4, _, _, ItzT X.K a b, H2, rfl, I3, turn_zipT a b (s2.heap.objs.size + 4) (s2.heap.objs.size + 2) (s2.heap.objs.size + 3) s2.heap.objs.size (s2.heap.objs.size + 1), ⟨e1, e2, ⟨_, _, e3⟩, ⟨_, e4, rfl, rfl⟩, ⟨_, e5, rfl, rfl⟩, ?_, ?_, ?_, ?_⟩, fun b hb => ?_, hR⟩
      · exact fun e => absurd (show s2.heap.objs.size + 2 = s2.heap.objs.size + 3 from e) (by omega)
      · exact fun e => absurd (show s2.heap.objs.size = s2.heap.objs.size + 1 from e) (by omega)
      · exact Nat.ne_of_lt (Nat.lt_add_right 3 la)
      · exact Nat.ne_of_lt (Nat.lt_add_right 3 lb)
      · have hb2 : s2.heap.objs.size ≤ b := by
          simp only [List.mem_cons, List.not_mem_nil, or_false] at hb
          rcases hb with rfl | rfl | rfl | rfl | rfl
          · exact Nat.le_add_right _ _
          · exact Nat.le_add_right _ _
          · exact Nat.le_add_right _ _
          · exact Nat.le_refl _
          · exact Nat.le_add_right _ _
        refine I2.fpOk hb2 ?_
        cases q : H2 b with
        | none => rfl
        | some o => exact absurd (I2.hok.lt q) (Nat.not_lt.mpr hb2)⟩
end DL
namespace DL
open PySem PySem.Spec PyProof.Rows L2
/-! ### what is walked, over data -/
/-- an iterator gives these, one by one, while the places stand so -/
def ItOk (K : PySem.W.Frag) (J : It) (ds : List D) (valid : Rs → Prop) (H0 : Hp) (ι : List Addr) : Prop :=
  ∀ (H0' : Hp) (ι' : List Addr) (R' : Rs) (H' : Hp), Same H0 H0' → Pre ι ι' → SR K H0' ι' R' H' → valid R' →
    (∀ i, i < ds.length → J.go i H') ∧ J.stop ds.length H' ∧ ∀ i v H'' d, ds[i]? = some d → J.yld i H' v H'' → ∃ H0'', SR K H0'' ι' R' H'' ∧ Step H0' ι' H' H0'' ι' H'' ∧ Rp K H0'' ι' v d
def UI {I : Type} (F : I → Cx) (tg iter : Expr) : TI := fun σ H R => ∃ t : TI, (∀ i, PI (F i) tg iter t) ∧ t σ H R
theorem pi_u {I : Type} {F : I → Cx} {tg iter : Expr} (i : I) : PI (F i) tg iter (UI F tg iter) := ⟨fun pins s σ H R I h => by
  obtain ⟨t, ht, q⟩ := h
  exact (ht i).run pins s σ H R I q⟩
def DI {I : Type} (F : I → Cx) (K : PySem.W.Frag) (tg iter : Expr) (ρ : Env) (R : Rs) (Φ : List D → (Rs → Prop) → Rs → Prop) : Prop := ∀ (H0 : Hp) (ι : List Addr) (σ : L2.St) (H : Hp) (Q : It → Hp → Prop), SR K H0 ι R H → EnvR K H0 ι σ ρ →
  (∀ J ds valid R' H0' ι' H', Φ ds valid R' → Step H0 ι H H0' ι' H' → SR K H0' ι' R' H' → ItOk K J ds valid H0' ι' → Q J H') → UI F tg iter σ H Q
section
variable {I : Type} {F : I → Cx} {K : PySem.W.Frag} {mg : Str → Option Value} {N : List Str} {ρ : Env} {R R' : Rs} {Φ : Φ1} {e a b tg iter : Expr} {pos p : Pos} {E : DEnds} {Ψ : List D → (Rs → Prop) → Rs → Prop}
/-- a list or a tuple -/
def Seq (R : Rs) (x : D) (ds : List D) : Prop := Lst R x ds ∨ x = .tup ds
theorem Seq.lst {ds : List D} : Seq R (.lst ds) ds := .inl .lst
theorem Seq.tup {ds : List D} : Seq R (.tup ds) ds := .inr rfl
theorem Seq.own {ds : List D} {k : Nat} (h : R[k]? = some (.lst ds)) : Seq R (.own k) ds := .inl (.own h)
theorem it_list {H0 : Hp} {ι : List Addr} {x : D} {ds : List D} {c : Addr} (r : Rp K H0 ι (.ref c) x) : ItOk K (Itl K c) ds (fun R => Lst R x ds) H0 ι := fun H0' ι' R' H' ex pr S hl => by
  obtain ⟨a, xs, e, hs, ra⟩ := hl.at_ S (r.mono ex pr)
  cases e
  refine ⟨fun i hi => ⟨xs, xs[i]'(by rw [ra.length]; exact hi), hs, List.getElem?_eq_getElem _⟩, ⟨xs, hs, Nat.le_of_eq ra.length⟩, fun i v H'' d hd hy => ?_⟩
  obtain ⟨rfl, hv⟩ := hy
  obtain ⟨u, hu, ru⟩ := ra.get hd
  have := hv xs hs
  rw [hu] at this
  cases this
  exact ⟨H0', S, Step.refl _ _ _, ru⟩
theorem it_tup {H0 : Hp} {ι : List Addr} {ds : List D} {c : Addr} {xs : List V} (h : TupAt K H0 c xs) (r : RpAll K H0 ι xs ds) : ItOk K (Itt K c) ds (fun _ => True) H0 ι := fun H0' ι' R' H' ex pr S hl => by
  have ra := r.mono ex pr
  have hs := (h.mono (ex.trans S.ex)).sqT
  refine ⟨fun i hi => ⟨xs, xs[i]'(by rw [ra.length]; exact hi), hs, List.getElem?_eq_getElem _⟩, ⟨xs, hs, Nat.le_of_eq ra.length⟩, fun i v H'' d hd hy => ?_⟩
  obtain ⟨rfl, hv⟩ := hy
  obtain ⟨u, hu, ru⟩ := ra.get hd
  have := hv xs hs
  rw [hu] at this
  cases this
  exact ⟨H0', S, Step.refl _ _ _, ru⟩
theorem di_list (Fm : Fam F K mg N) (h : DE F K iter ρ R fun x R1 => ∃ ds, Lst R1 x ds ∧ Ψ ds (fun R => Lst R x ds) R1) : DI F K tg iter ρ R Ψ := fun H0 ι σ H Q s r f =>
  ⟨iList K (UE F iter), fun i => Fm.K i ▸ pi_list (pe_u i), h H0 ι σ H _ s r fun d R1 A B v C hp s1 S1 r1 => by
    obtain ⟨ds, hl, hp⟩ := hp
    obtain ⟨a, xs, rfl, hs, ra⟩ := hl.at_ S1 r1
    exact ⟨a, rfl, ⟨xs, hs⟩, f _ ds _ R1 A B C hp s1 S1 (it_list r1)⟩⟩
theorem di_tup (Fm : Fam F K mg N) (h : DE F K iter ρ R fun x R1 => ∃ ds, x = .tup ds ∧ Ψ ds (fun _ => True) R1) : DI F K tg iter ρ R Ψ := fun H0 ι σ H Q s r f =>
  ⟨iTup K (UE F iter), fun i => Fm.K i ▸ pi_tup (pe_u i), h H0 ι σ H _ s r fun d R1 A B v C hp s1 S1 r1 => by
    obtain ⟨ds, rfl, hp⟩ := hp
    cases r1 with
    | @tup a xs _ ha ra => exact ⟨a, rfl, ⟨xs, (ha.mono S1.ex).sqT⟩, f _ ds _ R1 A B C hp s1 S1 (it_tup ha ra)⟩⟩
/-! range -/
def upTo (lo : Int) (n : Nat) : List D := (List.range n).map fun i : Nat => D.int (lo + (i : Int))
theorem upTo_len {lo : Int} {n : Nat} : (upTo lo n).length = n := by simp [upTo]
theorem upTo_at {lo : Int} {n i : Nat} {d : D} (h : (upTo lo n)[i]? = some d) : i < n ∧ d = .int (lo + (i : Int)) := by
  have hi := (List.getElem?_eq_some_iff.mp h).1
  rw [upTo_len] at hi
  refine ⟨hi, ?_⟩
  unfold upTo at h
  rw [List.getElem?_map, List.getElem?_range hi] at h
  exact (Option.some.inj h).symm
theorem it_range {H0 : Hp} {ι : List Addr} {lo : Int} {n : Nat} : ItOk K (Itr lo n) (upTo lo n) (fun _ => True) H0 ι := fun H0' ι' R' H' ex pr S _ => by
  rw [upTo_len]
  refine ⟨fun i hi => hi, Nat.le_refl _, fun i v H'' d hd hy => ?_⟩
  obtain ⟨rfl, rfl⟩ := hy
  obtain ⟨_, rfl⟩ := upTo_at hd
  exact ⟨H0', S, Step.refl _ _ _, .int _⟩
theorem di_range1 {pr pc : Pos} (Fm : Fam F K mg N) (hg : ∀ i, Gl (F i) "range") (hm : mg "range" = none) (h : DE F K a ρ R fun d R1 => ∃ n : Int, d = .int n ∧ (-(2 ^ 62) ≤ n ∧ n < 2 ^ 62) ∧ Ψ (upTo 0 n.toNat) (fun _ => True) R1)
    (hst : ∀ i, starEach [a] (F i).env = [(false, eval a (F i).env)] := by intro _; rfl) : DI F K tg (.Call (.Name "range" pr) [a] [] pc) ρ R Ψ := fun H0 ι σ H Q s r f =>
  ⟨iRng1 (tCons (UE F a) tNil), fun i => pi_range1 (hg i) (by rw [Fm.mg i]; exact hm) (pa_cons (pe_u i) pa_nil (hst i)) (hst i), h H0 ι σ H _ s r fun d R1 A B v C hp s1 S1 r1 => by
    obtain ⟨n, rfl, hn, hp⟩ := hp
    cases r1
    exact ⟨n, rfl, hn.1, hn.2, f _ (upTo 0 n.toNat) _ R1 A B C hp s1 S1 it_range⟩⟩
theorem di_range2 {pr pc : Pos} (Fm : Fam F K mg N) (hg : ∀ i, Gl (F i) "range") (hm : mg "range" = none) (h : DA F K [a, b] ρ R fun ds R1 => ∃ lo n : Int, ds = [.int lo, .int n] ∧ (-(2 ^ 62) ≤ lo ∧ lo < 2 ^ 62 ∧ -(2 ^ 62) ≤ n ∧ n < 2 ^ 62) ∧ Ψ (upTo lo (n - lo).toNat) (fun _ => True) R1)
    (hst : ∀ i, starEach [a, b] (F i).env = [(false, eval a (F i).env), (false, eval b (F i).env)] := by intro _; rfl) (hst2 : ∀ i, starEach [b] (F i).env = [(false, eval b (F i).env)] := by intro _; rfl) : DI F K tg (.Call (.Name "range" pr) [a, b] [] pc) ρ R Ψ := fun H0 ι σ H Q s r f =>
  ⟨iRng2 (UA F [a, b]), fun i => pi_range2 (hg i) (by rw [Fm.mg i]; exact hm) (pa_u i) (hst i) (hst2 i), h H0 ι σ H _ s r fun ds R1 A B vs C hp s1 S1 r1 => by
    obtain ⟨lo, n, rfl, hn, hp⟩ := hp
    cases r1 with
    | cons q1 r1 =>
      cases r1 with
      | cons q2 r1 =>
        cases r1
        cases q1
        cases q2
        exact ⟨lo, n, rfl, hn, f _ (upTo lo (n - lo).toNat) _ R1 A B C hp s1 S1 it_range⟩⟩
/-! a text, sign by sign -/
def signsD (z : Str) : List D := z.cps.toList.map fun c => D.str ⟨#[c]⟩
theorem it_str {H0 : Hp} {ι : List Addr} {z : Str} : ItOk K (Its z) (signsD z) (fun _ => True) H0 ι := fun H0' ι' R' H' ex pr S _ => by
  have hl : (signsD z).length = z.cps.size := by simp [signsD]
  rw [hl]
  refine ⟨fun i hi => hi, Nat.le_refl _, fun i v H'' d hd hy => ?_⟩
  obtain ⟨rfl, c, hc, rfl⟩ := hy
  have e : d = .str ⟨#[c]⟩ := by
    unfold signsD at hd
    rw [List.getElem?_map, Array.getElem?_toList, hc] at hd
    exact (Option.some.inj hd).symm
  subst e
  exact ⟨H0', S, Step.refl _ _ _, .str _⟩
theorem di_str (h : DE F K iter ρ R fun x R1 => ∃ z, x = .str z ∧ Ψ (signsD z) (fun _ => True) R1) : DI F K tg iter ρ R Ψ := fun H0 ι σ H Q s r f =>
  ⟨iStr (UE F iter), fun i => pi_str (pe_u i), h H0 ι σ H _ s r fun d R1 A B v C hp s1 S1 r1 => by
    obtain ⟨z, rfl, hp⟩ := hp
    cases r1
    exact ⟨z, rfl, f _ (signsD z) _ R1 A B C hp s1 S1 it_str⟩⟩
/-! enumerate, zip -/
def numbD : Nat → List D → List D
  | _, [] => []
  | i, d :: ds => .tup [.int (i : Nat), d] :: numbD (i + 1) ds
theorem numbD_len : ∀ (i : Nat) (ds : List D), (numbD i ds).length = ds.length
  | _, [] => rfl
  | i, _ :: ds => congrArg (· + 1) (numbD_len (i + 1) ds)
theorem numbD_at : ∀ {ds : List D} {k i : Nat} {d : D}, (numbD k ds)[i]? = some d → ∃ x, ds[i]? = some x ∧ d = .tup [.int ((k + i : Nat) : Nat), x]
  | [], _, _, _, h => by simp [numbD] at h
  | x :: ds, k, 0, d, h => by
    simp [numbD] at h
    exact ⟨x, rfl, h.symm⟩
  | x :: ds, k, i + 1, d, h => by
    have h2 : (numbD (k + 1) ds)[i]? = some d := by simpa [numbD] using h
    obtain ⟨y, hy, e⟩ := numbD_at h2
    refine ⟨y, by simpa using hy, ?_⟩
    rw [e, show k + 1 + i = k + (i + 1) by omega]
theorem it_enum {H0 : Hp} {ι : List Addr} {x : D} {ds : List D} {c : Addr} (r : Rp K H0 ι (.ref c) x) : ItOk K (Ite K c) (numbD 0 ds) (fun R => Lst R x ds) H0 ι := fun H0' ι' R' H' ex pr S hl => by
  obtain ⟨a, xs, e, hs, ra⟩ := hl.at_ S (r.mono ex pr)
  cases e
  rw [numbD_len]
  refine ⟨fun i hi => ⟨xs, xs[i]'(by rw [ra.length]; exact hi), hs, List.getElem?_eq_getElem _⟩, ⟨xs, hs, Nat.le_of_eq ra.length⟩, fun i v H'' d hd hy => ?_⟩
  obtain ⟨T, y, rfl, hT, rfl, hv⟩ := hy
  obtain ⟨d', hd', rfl⟩ := numbD_at hd
  obtain ⟨u, hu, ru⟩ := ra.get hd'
  have e0 := hv xs hs
  rw [hu] at e0
  have e1 := Option.some.inj e0
  subst e1
  obtain ⟨S2, s2⟩ := S.laid (o := .tup [.int (i : Nat), u]) hT
  refine ⟨_, S2, s2, .tup (.inl upd_same) (.cons ?_ (.cons (ru.step s2) .nil))⟩
  rw [Nat.zero_add]
  exact .int _
theorem it_enumT {H0 : Hp} {ι : List Addr} {ds : List D} {c : Addr} {xs : List V} (h : TupAt K H0 c xs) (r : RpAll K H0 ι xs ds) : ItOk K (IteT K c) (numbD 0 ds) (fun _ => True) H0 ι := fun H0' ι' R' H' ex pr S hl => by
  have ra := r.mono ex pr
  have hs := (h.mono (ex.trans S.ex)).sqT
  rw [numbD_len]
  refine ⟨fun i hi => ⟨xs, xs[i]'(by rw [ra.length]; exact hi), hs, List.getElem?_eq_getElem _⟩, ⟨xs, hs, ra.length⟩, fun i v H'' d hd hy => ?_⟩
  obtain ⟨T, y, rfl, hT, rfl, hv⟩ := hy
  obtain ⟨d', hd', rfl⟩ := numbD_at hd
  obtain ⟨u, hu, ru⟩ := ra.get hd'
  have e0 := hv xs hs
  rw [hu] at e0
  have e1 := Option.some.inj e0
  subst e1
  obtain ⟨S2, s2⟩ := S.laid (o := .tup [.int (i : Nat), u]) hT
  refine ⟨_, S2, s2, .tup (.inl upd_same) (.cons ?_ (.cons (ru.step s2) .nil))⟩
  rw [Nat.zero_add]
  exact .int _
section
variable {elts : List Expr} {kk : Nat} {tpos : Pos}
theorem di_enum (Fm : Fam F K mg N) (hg : ∀ i, Gl (F i) "enumerate") (hm : mg "enumerate" = none) (h : DE F K e ρ R fun x R1 => ∃ ds, Lst R1 x ds ∧ Ψ (numbD 0 ds) (fun R => Lst R x ds) R1)
    (hst : ∀ i, starEach [e] (F i).env = [(false, eval e (F i).env)] := by intro _; rfl) : DI F K (.Tuple elts kk tpos) (.Call (.Name "enumerate" p) [e] [] pos) ρ R Ψ := fun H0 ι σ H Q s r f =>
  ⟨iEnum K (tCons (UE F e) tNil), fun i => Fm.K i ▸ pi_enum (hg i) (by rw [Fm.mg i]; exact hm) (pa_cons (pe_u i) pa_nil (hst i)) (hst i), h H0 ι σ H _ s r fun d R1 A B v C hp s1 S1 r1 => by
    obtain ⟨ds, hl, hp⟩ := hp
    obtain ⟨a, xs, rfl, hs, ra⟩ := hl.at_ S1 r1
    exact ⟨a, xs, rfl, hs, f _ _ _ R1 A B C hp s1 S1 (it_enum r1)⟩⟩
theorem di_enumT (Fm : Fam F K mg N) (hg : ∀ i, Gl (F i) "enumerate") (hm : mg "enumerate" = none) (h : DE F K e ρ R fun x R1 => ∃ ds, x = .tup ds ∧ Ψ (numbD 0 ds) (fun _ => True) R1)
    (hst : ∀ i, starEach [e] (F i).env = [(false, eval e (F i).env)] := by intro _; rfl) : DI F K (.Tuple elts kk tpos) (.Call (.Name "enumerate" p) [e] [] pos) ρ R Ψ := fun H0 ι σ H Q s r f =>
  ⟨iEnumT K (tCons (UE F e) tNil), fun i => Fm.K i ▸ pi_enumT (hg i) (by rw [Fm.mg i]; exact hm) (pa_cons (pe_u i) pa_nil (hst i)) (hst i), h H0 ι σ H _ s r fun d R1 A B v C hp s1 S1 r1 => by
    obtain ⟨ds, rfl, hp⟩ := hp
    cases r1 with
    | @tup a xs _ ha ra => exact ⟨a, xs, rfl, (ha.mono S1.ex).sqT, f _ _ _ R1 A B C hp s1 S1 (it_enumT ha ra)⟩⟩
def zipD : List D → List D → List D
  | d :: ds, e :: es => .tup [d, e] :: zipD ds es
  | _, _ => []
theorem zipD_len : ∀ (ds es : List D), (zipD ds es).length = min ds.length es.length
  | [], _ => by simp [zipD]
  | _ :: _, [] => by simp [zipD]
  | _ :: ds, _ :: es => by simp [zipD, zipD_len ds es]
theorem zipD_at : ∀ {ds es : List D} {i : Nat} {d : D}, (zipD ds es)[i]? = some d → ∃ x y, ds[i]? = some x ∧ es[i]? = some y ∧ d = .tup [x, y]
  | [], _, _, _, h => by simp [zipD] at h
  | _ :: _, [], _, _, h => by simp [zipD] at h
  | x :: ds, y :: es, 0, d, h => by
    simp [zipD] at h
    exact ⟨x, y, rfl, rfl, h.symm⟩
  | x :: ds, y :: es, i + 1, d, h => by
    obtain ⟨a, b, h1, h2, e⟩ := zipD_at (i := i) (by simpa [zipD] using h)
    exact ⟨a, b, by simpa using h1, by simpa using h2, e⟩
theorem it_zip {H0 : Hp} {ι : List Addr} {x y : D} {ds es : List D} {c c2 : Addr} (r : Rp K H0 ι (.ref c) x) (r2 : Rp K H0 ι (.ref c2) y) : ItOk K (Itz K c c2) (zipD ds es) (fun R => Lst R x ds ∧ Lst R y es) H0 ι := fun H0' ι' R' H' ex pr S hl => by
  obtain ⟨a, xs, e, hs, ra⟩ := hl.1.at_ S (r.mono ex pr)
  cases e
  obtain ⟨a, ys, e, hs2, ra2⟩ := hl.2.at_ S (r2.mono ex pr)
  cases e
  rw [zipD_len]
  refine ⟨fun i hi => ⟨xs, ys, xs[i]'(by rw [ra.length]; omega), ys[i]'(by rw [ra2.length]; omega), hs, hs2, List.getElem?_eq_getElem _, List.getElem?_eq_getElem _⟩, ⟨xs, ys, hs, hs2, ?_⟩, fun i v H'' d hd hy => ?_⟩
  · rw [ra.length, ra2.length]
    omega
  · obtain ⟨T, u, v, rfl, hT, rfl, hv, hv2⟩ := hy
    obtain ⟨x', y', hx', hy', rfl⟩ := zipD_at hd
    obtain ⟨u', hu, ru⟩ := ra.get hx'
    obtain ⟨v', hv', rv⟩ := ra2.get hy'
    have e1 := hv xs hs
    rw [hu] at e1
    cases e1
    have e2 := hv2 ys hs2
    rw [hv'] at e2
    cases e2
    obtain ⟨S2, s2⟩ := S.laid (o := .tup [u, v]) hT
    exact ⟨_, S2, s2, .tup (.inl upd_same) (.cons (ru.step s2) (.cons (rv.step s2) .nil))⟩
theorem it_zipT {H0 : Hp} {ι : List Addr} {ds es : List D} {c c2 : Addr} {xs ys : List V} (h : TupAt K H0 c xs) (r : RpAll K H0 ι xs ds) (h2 : TupAt K H0 c2 ys) (r2 : RpAll K H0 ι ys es) : ItOk K (ItzT K c c2) (zipD ds es) (fun _ => True) H0 ι := fun H0' ι' R' H' ex pr S hl => by
  have ra := r.mono ex pr
  have hs := (h.mono (ex.trans S.ex)).sqT
  have ra2 := r2.mono ex pr
  have hs2 := (h2.mono (ex.trans S.ex)).sqT
  rw [zipD_len]
  refine ⟨fun i hi => ⟨xs, ys, xs[i]'(by rw [ra.length]; omega), ys[i]'(by rw [ra2.length]; omega), hs, hs2, List.getElem?_eq_getElem _, List.getElem?_eq_getElem _⟩, ⟨xs, ys, hs, hs2, ?_⟩, fun i v H'' d hd hy => ?_⟩
  · rw [ra.length, ra2.length]
  · obtain ⟨T, u, v, rfl, hT, rfl, hv, hv2⟩ := hy
    obtain ⟨x', y', hx', hy', rfl⟩ := zipD_at hd
    obtain ⟨u', hu, ru⟩ := ra.get hx'
    obtain ⟨v', hv', rv⟩ := ra2.get hy'
    have e1 := hv xs hs
    rw [hu] at e1
    cases e1
    have e2 := hv2 ys hs2
    rw [hv'] at e2
    cases e2
    obtain ⟨S2, s2⟩ := S.laid (o := .tup [u, v]) hT
    exact ⟨_, S2, s2, .tup (.inl upd_same) (.cons (ru.step s2) (.cons (rv.step s2) .nil))⟩
theorem di_zip (Fm : Fam F K mg N) (hg : ∀ i, Gl (F i) "zip") (hm : mg "zip" = none) (h : DA F K [a, b] ρ R fun xs R1 => ∃ x y ds es, xs = [x, y] ∧ Lst R1 x ds ∧ Lst R1 y es ∧ Ψ (zipD ds es) (fun R => Lst R x ds ∧ Lst R y es) R1)
    (hst : ∀ i, starEach [a, b] (F i).env = (false, eval a (F i).env) :: starEach [b] (F i).env := by intro _; rfl) (hpl : ∀ i, ((backTo pos (starEach [b] (F i).env)).any fun x => x.fst) = false := by intro _; rfl) : DI F K (.Tuple elts kk tpos) (.Call (.Name "zip" p) [a, b] [] pos) ρ R Ψ := fun H0 ι σ H Q s r f =>
  ⟨iZip K (UA F [a, b]), fun i => Fm.K i ▸ pi_zip (hg i) (by rw [Fm.mg i]; exact hm) (pa_u i) (hst i) (hpl i), h H0 ι σ H _ s r fun ds R1 A B vs C hp s1 S1 r1 => by
    obtain ⟨x, y, ds, es, rfl, hl, hl2, hp⟩ := hp
    cases r1 with
    | cons q1 r1 =>
      cases r1 with
      | cons q2 r1 =>
        cases r1
        obtain ⟨c, xs, rfl, hs, ra⟩ := hl.at_ S1 q1
        obtain ⟨c2, ys, rfl, hs2, ra2⟩ := hl2.at_ S1 q2
        exact ⟨c, c2, xs, ys, rfl, hs, hs2, f _ _ _ R1 A B C hp s1 S1 (it_zip q1 q2)⟩⟩
theorem di_zipT (Fm : Fam F K mg N) (hg : ∀ i, Gl (F i) "zip") (hm : mg "zip" = none) (h : DA F K [a, b] ρ R fun xs R1 => ∃ ds es, xs = [.tup ds, .tup es] ∧ Ψ (zipD ds es) (fun _ => True) R1)
    (hst : ∀ i, starEach [a, b] (F i).env = (false, eval a (F i).env) :: starEach [b] (F i).env := by intro _; rfl) (hpl : ∀ i, ((backTo pos (starEach [b] (F i).env)).any fun x => x.fst) = false := by intro _; rfl) : DI F K (.Tuple elts kk tpos) (.Call (.Name "zip" p) [a, b] [] pos) ρ R Ψ := fun H0 ι σ H Q s r f =>
  ⟨iZipT K (UA F [a, b]), fun i => Fm.K i ▸ pi_zipT (hg i) (by rw [Fm.mg i]; exact hm) (pa_u i) (hst i) (hpl i), h H0 ι σ H _ s r fun ds R1 A B vs C hp s1 S1 r1 => by
    obtain ⟨ds, es, rfl, hp⟩ := hp
    cases r1 with
    | cons q1 r1 =>
      cases r1 with
      | cons q2 r1 =>
        cases r1
        cases q1 with
        | @tup c xs _ ha ra =>
          cases q2 with
          | @tup c2 ys _ ha2 ra2 => exact ⟨c, c2, xs, ys, rfl, (ha.mono S1.ex).sqT, (ha2.mono S1.ex).sqT, f _ _ _ R1 A B C hp s1 S1 (it_zipT ha ra ha2 ra2)⟩⟩
end
/-! ### the loop -/
theorem ds_for {body : List Stmt} (Fm : Fam F K mg N) (h : DI F K tg iter ρ R fun ds valid R1 => ∃ J : Nat → Env → Rs → Prop, J 0 ρ R1 ∧ (∀ i ρ' R', J i ρ' R' → valid R') ∧
      (∀ i x ρ' R', ds[i]? = some x → J i ρ' R' → DG F K tg x ρ' R' fun ρ2 R2 => DSs F K body ρ2 R2 { nx := J (i + 1), ct := J (i + 1), bk := E.nx, rt := E.rt }) ∧ (∀ ρ' R', J ds.length ρ' R' → E.nx ρ' R'))
    (hs : ∀ i x, foldedSetIterable iter (F i).env x = pure x := by intro _ _; rfl) : DS F K (.For tg iter body [] pos) ρ R E :=
  DS.of (t := tFor (UI F tg iter) (UG F tg) (USs F body)) (fun i => ps_for (Fm.pass i) (Fm.calm i) (pi_u i) (pg_u i) (pss_u i) (hs i)) fun H0 ι σ H D s r f => h H0 ι σ H _ s r fun It ds valid R1 A B C hp s1 S1 ok => by
    obtain ⟨J, h0, hv, hstep, hend⟩ := hp
    refine ⟨fun i m σ' H' => m = ds.length - i ∧ i ≤ ds.length ∧ ∃ ρ' R' H0' ι', J i ρ' R' ∧ Step A B C H0' ι' H' ∧ SR K H0' ι' R' H' ∧ EnvR K H0' ι' σ' ρ', ⟨ds.length, by simp, Nat.zero_le _, ρ, R1, A, B, h0, Step.refl _ _ _, S1, r.step s1⟩, ?_⟩
    rintro i m σ' H' ⟨rfl, hi, ρ', R', H0', ι', hj, st, S', r'⟩
    obtain ⟨go, stop, yld⟩ := ok H0' ι' R' H' st.ex st.pre S' (hv i ρ' R' hj)
    by_cases hlt : i < ds.length
    · refine .inr ⟨go i hlt, fun σ2 H2 => ∃ ρ2 R2 H02 ι2, J (i + 1) ρ2 R2 ∧ Step A B C H02 ι2 H2 ∧ SR K H02 ι2 R2 H2 ∧ EnvR K H02 ι2 σ2 ρ2, fun σ2 H2 hn => ⟨ds.length - (i + 1), by omega, rfl, hlt, hn⟩, fun x H2 hy => ?_⟩
      have hd : ds[i]? = some ds[i] := List.getElem?_eq_getElem hlt
      obtain ⟨H02, S2, s2, rx⟩ := yld i x H2 ds[i] hd hy
      have st2 := st.trans s2
      exact hstep i ds[i] ρ' R' hd hj H02 ι' σ' H2 x _ S2 (r'.step s2) rx fun ρ3 R3 A3 B3 σ3 C3 hp3 s3 S3 r3 => hp3 A3 B3 σ3 C3 _ S3 r3
        ⟨fun ρ4 R4 A4 B4 σ4 C4 hp4 s4 S4 r4 => ⟨ρ4, R4, A4, B4, hp4, (st2.trans s3).trans s4, S4, r4⟩, (((f.rt.step s1).step st2).step s3), (((f.nx.step s1).step st2).step s3), fun ρ4 R4 A4 B4 σ4 C4 hp4 s4 S4 r4 => ⟨ρ4, R4, A4, B4, hp4, (st2.trans s3).trans s4, S4, r4⟩⟩
    · have e : i = ds.length := by omega
      subst e
      exact .inl ⟨stop, ((f.nx.step s1).step st).now S' (hend ρ' R' hj) r'⟩
end
/-! ### the comprehension -/
section
variable {I : Type} {F : I → Cx} {W : World0} {N : List Str} {ρ : Env} {R R' : Rs} {Φ : Φ1} {tg iter elt : Expr} {ifs : List Expr} {pos p apos : Pos} {j : Nat} {scope : Scope} {own : List (Str × Nat)} {E : DEnds}
theorem lcst_step {J0 : Type} {G : J0 → Cx} {K : PySem.W.Frag} {A : Hp} {B : List Addr} {C : Hp} {Dl : Addr} {Jn : List D → Rs → Prop} {vs : List Nat} {σ : L2.St} {ρ : Env} {tg elt : Expr} {ifs : List Expr} {x : V} {ys : List D} {R' : Rs} {H0' H' : Hp} {ι' : List Addr} {accs : List V} {d : D}
    (hz : ys.length < sizeLine) (hD : C Dl = none) (st : Step A B C H0' ι' H') (S : SR K H0' ι' R' H') (hd : H' Dl = some (.lst accs)) (ra : RpAll K H0' ι' accs ys) (h0 : H0' Dl = none) (hi : Dl ∉ ι') (hρ : EnvR K A B (wipe σ vs) ρ) (rx : Rp K H0' ι' x d)
    (hg : DGw G K vs tg d ρ R' fun ρ2 R2 => DTs G K ifs ρ2 R2 fun k R3 => (k = true → DE G K elt ρ2 R3 fun y R4 => Jn (ys ++ [y]) R4) ∧ (k = false → Jn ys R3)) :
    UG G tg x (wipe σ vs) H' fun σ2 H2 => wipe σ2 vs = wipe σ vs ∧ UTs G ifs σ2 H2 fun b H3 => if b = true then UE G elt σ2 H3 fun y H4 => ∃ acc, H4 Dl = some (.lst acc) ∧ acc.length < sizeLine ∧ LcSt K A B C Dl Jn (upd H4 Dl (.lst (acc ++ [y]))) else LcSt K A B C Dl Jn H3 := by
  refine hg H0' ι' (wipe σ vs) H' x _ S (hρ.step st) rx fun ρ2 R2 A2 B2 σ2 C2 ht s2 S2 r2 w2 => ⟨w2.trans (wipe_wipe σ vs), ht A2 B2 σ2 C2 _ S2 r2 fun k R3 A3 B3 C3 hk s3 S3 => ?_⟩
  have fr : ∀ {A4 : Hp} {B4 : List Addr} {C4 : Hp}, Step H0' ι' H' A4 B4 C4 → C4 Dl = some (.lst accs) ∧ A4 Dl = none ∧ Dl ∉ B4 := fun {A4 B4 C4} s4 => by
    refine ⟨s4.keep _ _ hd hi, ?_, fun m => ?_⟩
    · cases q : A4 Dl with
      | none => rfl
      | some o =>
        rcases s4.frz _ _ q with z | z | z
        · rw [h0] at z; cases z
        · rw [hd] at z; cases z
        · exact absurd z hi
    · rcases s4.new _ m with z | z
      · exact hi z
      · rw [hd] at z; cases z
  cases k with
  | true =>
    refine hk.1 rfl A3 B3 σ2 C3 _ S3 (r2.step s3) fun y R4 A4 B4 v C4 hy s4 S4 r4 => ?_
    obtain ⟨q1, q2, q3⟩ := fr ((s2.trans s3).trans s4)
    have st4 := (((st.trans s2).trans s3).trans s4)
    refine ⟨accs, q1, by rw [ra.length]; exact hz, ys ++ [y], R4, A4, B4, accs ++ [v], hy, ⟨st4.ex, st4.pre, fun a o e hn => ?_, st4.new, st4.frz⟩, S4.off q2 q3, upd_same, ((ra.step ((s2.trans s3).trans s4)).append (.cons r4 .nil)), q2, q3⟩
    have : a ≠ Dl := ne_of_none e hD
    rw [upd_ne this]
    exact st4.keep a o e hn
  | false =>
    obtain ⟨q1, q2, q3⟩ := fr (s2.trans s3)
    exact ⟨ys, R3, A3, B3, accs, hk.2 rfl, (st.trans s2).trans s3, S3, q1, ra.step (s2.trans s3), q2, q3⟩
/-- what a comprehension asks -/
def LcAsk (F : I → Cx) (K : PySem.W.Frag) (scope : Scope) (own : List (Str × Nat)) (tg iter elt : Expr) (ifs : List Expr) (ρ : Env) (R : Rs) (Φ : Φ1) : Prop := DI F K tg iter ρ R fun ds valid R1 => ∃ J : Nat → List D → Rs → Prop, J 0 [] R1 ∧ (∀ i ys R', J i ys R' → valid R' ∧ ys.length < sizeLine) ∧
      (∀ i x ys R', ds[i]? = some x → J i ys R' → DGw (blkF F scope) K (own.map (·.2)) tg x (wipeD ρ (own.map (·.2))) R' fun ρ2 R2 => DTs (blkF F scope) K ifs ρ2 R2 fun k R3 => (k = true → DE (blkF F scope) K elt ρ2 R3 fun y R4 => J (i + 1) (ys ++ [y]) R4) ∧ (k = false → J (i + 1) ys R3)) ∧
      (∀ ys R', J ds.length ys R' → Φ (.lst ys) R')
theorem lc_core {K : PySem.W.Frag} (h : LcAsk F K scope own tg iter elt ifs ρ R Φ) {H0 : Hp} {ι : List Addr} {σ : L2.St} {H : Hp} {Q : VK} (s : SR K H0 ι R H) (r : EnvR K H0 ι σ ρ) (f : Fin K H0 ι H Φ Q) :
    tLc (UI F tg iter) (UG (blkF F scope) tg) (UTs (blkF F scope) ifs) (UE (blkF F scope) elt) (own.map (·.2)) σ H Q := h H0 ι σ H _ s r fun It ds valid R1 A B C hp s1 S1 ok => by
  obtain ⟨J, h0, hz, hstep, hend⟩ := hp
  intro Dl hD
  refine ⟨fun i m H' => m = ds.length - i ∧ i ≤ ds.length ∧ LcSt K A B C Dl (J i) H', ⟨ds.length, by simp, Nat.zero_le _, lcst_start S1 hD h0⟩, ?_⟩
  rintro i m H' ⟨rfl, hi, hl⟩
  have hl0 := hl
  obtain ⟨ys, R', H0', ι', accs, hj, st, S, hd, ra, h0', hin⟩ := hl
  obtain ⟨hv, hzz⟩ := hz i ys R' hj
  obtain ⟨go, stop, yld⟩ := ok H0' ι' R' H' st.ex st.pre S hv
  by_cases hlt : i < ds.length
  · refine .inr ⟨go i hlt, fun H2 => LcSt K A B C Dl (J (i + 1)) H2, fun H2 hn => ⟨ds.length - (i + 1), by omega, rfl, hlt, hn⟩, fun x H2 hy => ?_⟩
    have hdx : ds[i]? = some ds[i] := List.getElem?_eq_getElem hlt
    obtain ⟨H02, S2, s2, rx⟩ := yld i x H2 ds[i] hdx hy
    have q1 := s2.keep _ _ hd hin
    have q2 : H02 Dl = none := by
      cases q : H02 Dl with
      | none => rfl
      | some o =>
        rcases s2.frz _ _ q with z | z | z
        · rw [h0'] at z; cases z
        · rw [hd] at z; cases z
        · exact absurd z hin
    exact lcst_step hzz hD (st.trans s2) S2 q1 (ra.step s2) q2 hin (wipe_env (r.step s1) _) rx (hstep i ds[i] ys R' hdx hj)
  · have e : i = ds.length := by omega
    subst e
    exact .inl ⟨stop, lcst_end hD hl0 (f.step s1) hend⟩
theorem de_lc (Fm : FamW F W N j) (ok : ∀ i, BlkOk (F i).N (F i).env.scope scope own) (h : LcAsk F W.K scope own tg iter elt ifs ρ R Φ) (hs : ∀ i x, foldedSetIterable iter (F i).env x = pure x := by intro _ _; rfl) : DE F W.K (.ListComp elt [⟨tg, iter, ifs, 0⟩] scope pos) ρ R Φ :=
  DE.of (fun i => pe_lc (Fm.calm i) (by rw [Fm.toFam.N i]; exact Fm.nd) (pi_u i) (ok i)
    (fun s H C cl fp => pg_u (F := blkF F scope) (i, s, H, C, cl, fp)) (fun s H C cl fp => pts_u (F := blkF F scope) (i, s, H, C, cl, fp)) (fun s H C cl fp => pe_u (F := blkF F scope) (i, s, H, C, cl, fp)) (hs i)) fun H0 ι σ H Q s r f => lc_core h s r f
/-- y = [..], on one row -/
theorem ds_setLc {y : Str} {py spos : Pos} (k : Nat) (Fm : FamW F W N j) (hk : N[k]? = some y) (hy : ∀ i, (F i).env.scope.names.lookup y = some .local) (hsw : ∀ i, swapsWith (.ListComp elt [⟨tg, iter, ifs, 0⟩] scope pos) (some (.Name y py)) spos.line (F i).env = pure true) (ok : ∀ i, BlkOk (F i).N (F i).env.scope scope own)
    (h : LcAsk F W.K scope own tg iter elt ifs ρ R fun d R' => E.nx (ρ.set k (some d)) R') (hs : ∀ i x, foldedSetIterable iter (F i).env x = pure x := by intro _ _; rfl) : DS F W.K (.Assign [.Name y py] (.ListComp elt [⟨tg, iter, ifs, 0⟩] scope pos) spos) ρ R E :=
  DS.of (fun i => ps_setLc (i := k) (Fm.calm i) (by rw [Fm.toFam.N i]; exact Fm.nd) (by rw [Fm.toFam.N i]; exact hk) (hy i) (hsw i) (pi_u i) (ok i)
    (fun s H C cl fp => pg_u (F := blkF F scope) (i, s, H, C, cl, fp)) (fun s H C cl fp => pts_u (F := blkF F scope) (i, s, H, C, cl, fp)) (fun s H C cl fp => pe_u (F := blkF F scope) (i, s, H, C, cl, fp)) (hs i)) fun H0 ι σ H D s r f => lc_core h s r fun d R' A B v C hp s1 S1 r1 => (f.nx.step s1).now S1 hp ((r.step s1).set r1 k)
end
end DL
namespace DL
open PySem PySem.Spec PyProof.Rows L2
/-! ### the end: a row's own call of its law -/
/-- a heap without one object -/
def cutOut (h : Heap) (a : Addr) : Heap := { h with objs := h.objs.setIfInBounds a { cls := .none, data := .freed } }
theorem cutOut_same {h : Heap} {a : Addr} : (cutOut h a).get? a = none := by
  unfold cutOut Heap.get?
  simp only
  by_cases hl : a < h.objs.size
  · rw [Array.getElem?_setIfInBounds_self_of_lt hl]
  · have hl2 : h.objs.size ≤ a := Nat.le_of_not_lt hl
    rw [Array.getElem?_eq_none (by rw [Array.size_setIfInBounds]; exact hl2)]
theorem cutOut_ne {h : Heap} {a b : Addr} (hn : b ≠ a) : (cutOut h a).get? b = h.get? b := by
  unfold cutOut Heap.get?
  simp only
  rw [Array.getElem?_setIfInBounds_ne (Ne.symm hn)]
theorem cutOut_of {h : Heap} {a b : Addr} {o : Obj} (e : (cutOut h a).get? b = some o) : b ≠ a ∧ h.get? b = some o := by
  have hn : b ≠ a := fun z => by subst z; rw [cutOut_same] at e; cases e
  rw [cutOut_ne hn] at e
  exact ⟨hn, e⟩
theorem ns_cut {h : Heap} {a n : Addr} {m : Str → Option Value} {o : Obj} {its : Array Value} {k : Nat} (g : h.Ns n m) (ha : h.get? a = some o) (hd : o.data = .seq its k) : (cutOut h a).Ns n m := by
  obtain ⟨o', es, ep, h1, h2, h3, h4⟩ := g
  refine ⟨o', es, ep, ?_, h2, h3, h4⟩
  rw [cutOut_ne (fun z => ?_)]
  · exact h1
  · subst z
    rw [ha] at h1
    cases h1
    rw [hd] at h2
    cases h2
theorem ints_vals : ∀ {vs : List Value} {ns : List Int}, IntsAre vs ns → Vals (ns.map V.int) vs
  | _, _, .nil => .nil
  | _, _, .cons n t r => .cons ⟨t, rfl⟩ (ints_vals r)
theorem rp_ints {K : PySem.W.Frag} {H : Hp} {ι : List Addr} : ∀ ns : List Int, RpAll K H ι (ns.map V.int) (ns.map D.int)
  | [] => .nil
  | n :: ns => .cons (.int n) (rp_ints ns)
theorem ints_len : ∀ {vs : List Value} {ns : List Int}, IntsAre vs ns → vs.length = ns.length
  | _, _, .nil => rfl
  | _, _, .cons n t r => congrArg (· + 1) (ints_len r)
theorem walk_g {l : PySem.W.OpenLaw} {n k : Nat} {q : Program} {loose : List Str} {XP : (Str → Option Value) → Heap → Prop} {YP : World → Heap → Prop} {d : DefRec} {x : Str} {A : PreD} {B : PostD}
    (hm : l.most = some n) (hn : n ≤ sizeLine) (hd : d.params.defaults = []) (hr : Room k callerA)
    (hF : ∀ (w : World) (mg : Str → Option Value) (fa : Addr) (h : Heap), YP w h → h.Ns mainGlobals mg → mg d.name = some (.ref fa) → ∃ (K : PySem.W.Frag) (fd : FuncData), K.In h ∧
      (∀ (s : Shared) (u : Value), BindsTo s fd ⟨[u], []⟩ [(x, u)]) ∧ ∀ base : Heap, K.In base → base.Ns mainGlobals mg → FnG ⟨l.prog, w, K, mg, base⟩ k fa fd [x] 1 A B)
    (hA : ∀ ns : List Int, ns.length ≤ n → A [.rd (ns.map .int)] []) (hB : ∀ (ns : List Int) (y : D) (R : Rs), ns.length ≤ n → B [.rd (ns.map .int)] [] y R → y = .bl true) :
    PySem.W.WalkO q loose XP YP l.row.toRowW d [] fun f vs => PySem.call f vs := by
  refine Att.attach_call hm hd fun w s₀ s₁ mg mb fa o pm cd doc a vs ns G Y hfa hod hcr hmg ha hi hl hgn => ?_
  obtain ⟨K, fd, KX, hb, F⟩ := hF w mg fa s₁.heap Y G.T.g hmg
  -- the list that is handed in is known for good
  have hK : K.lookup a ≠ none ∨ K.lookup a = none := by
    cases K.lookup a with
    | none => exact .inr rfl
    | some o => exact .inl (by simp)
  have key : ∃ (H : Hp) (base : Heap), SqL K H a (ns.map V.int) ∧ Env0 l.prog w K mg base callerA [] s₁ H ∧ (∀ b o, s₁.heap.get? b = some o → H b = none ∨ H b = some (.frz o (.lst (ns.map V.int)))) := by
    have hb0 : AllBare s₁.gens := fun y hy => by rw [hgn] at hy; simp at hy
    rcases hK with hK | hK
    · obtain ⟨o', lk⟩ := Option.ne_none_iff_exists'.mp hK
      have e := KX a o' lk
      rw [ha] at e
      cases e
      refine ⟨fun _ => none, s₁.heap, .inr ⟨_, vs.toArray, 0, lk, rfl, rfl, rfl, ?_, ?_⟩, ⟨rfl, ⟨KX, G.T.g, ⟨mb, G.T.b, G.T.builtins⟩, G.T.nolimit⟩, fun b o e => ⟨e, rfl⟩, Nat.le_refl _, trivial, fun _ h => (by simp [frs] at h), fun _ _ e => (by cases e), hb0⟩, fun _ _ _ => .inl rfl⟩
      · have := ints_len hi
        simp
        omega
      · exact ints_vals hi
    · refine ⟨upd (fun _ => none) a (.frz ⟨.type "list", none, .seq vs.toArray 0, #[]⟩ (.lst (ns.map V.int))), cutOut s₁.heap a, .inl (.inr ⟨_, upd_same⟩), ⟨rfl, ⟨fun b o lk => ?_, ns_cut G.T.g ha rfl, ⟨mb, ns_cut G.T.b ha rfl, G.T.builtins⟩, ?_⟩, fun b o e => ?_, ?_, trivial, fun _ h => (by simp [frs] at h), fun b u e => ?_, hb0⟩, fun b o e => ?_⟩
      · have hn : b ≠ a := fun z => by subst z; rw [hK] at lk; cases lk
        rw [cutOut_ne hn]
        exact KX b o lk
      · obtain ⟨mc, g, e⟩ := G.T.nolimit
        exact ⟨mc, ns_cut g ha rfl, e⟩
      · obtain ⟨hn, e⟩ := cutOut_of e
        exact ⟨e, by rw [upd_ne hn]⟩
      · show (s₁.heap.objs.setIfInBounds a _).size ≤ s₁.heap.objs.size
        simp
      · by_cases hn : b = a
        · subst hn
          rw [upd_same] at e
          cases e
          have hz := ints_len hi
          exact ⟨ha, by rw [List.length_map]; omega, vs, 0, ints_vals hi, ha⟩
        · rw [upd_ne hn] at e
          cases e
      · by_cases hn : b = a
        · subst hn
          rw [ha] at e
          cases e
          exact .inr upd_same
        · exact .inl (by rw [upd_ne hn])
  obtain ⟨H, base, hS, he, hold⟩ := key
  have c := F base he.mod.kin he.mod.glob callerA [] s₁ H ⟨[.ref a], []⟩ [.ref a] [.ref a] (fun v _ => v = .bl true) hr rfl he (hb s₁ (.ref a)) (.cons rfl .nil)
    ⟨rfl, H, [], [], [.rd (ns.map .int)], ⟨Same.refl _, rfl, by simp, fun a m => (by cases m), fun k a r e _ => (by simp at e)⟩, .cons (.rd hS (rp_ints ns)) .nil, hA ns hl, fun d R' H0' ι' v H' hb2 _ _ r => by
      have e := hB ns d R' hl hb2
      subst e
      cases r
      rfl⟩
  refine codeAny_mono c fun r s' hc => ?_
  cases r with
  | error e => exact hc.elim
  | ok fl =>
    cases fl with
    | ret u =>
      obtain ⟨v, H', h1, h2, h3, h4, h5, rfl⟩ := hc
      cases h5
      refine ⟨rfl, OldK.of_keep fun b o e => ?_, h1, h2⟩
      rcases hold b o e with z | z
      · exact h3.keep b o e z (by simp [frs]) (by simp)
      · have z2 := h3.frzs b _ _ z
        have ok := h4 b _ z2
        obtain ⟨ok1, ok2⟩ := ok
        exact ok1
    | next => exact hc.elim
    | brk => exact hc.elim
    | cont => exact hc.elim
end DL
namespace DL
open PySem PySem.SeqAt PySem.W
open PySem.SeqAt (EqAt RcLt firstLt firstLt_yes firstLt_no)
/-! ### data that can be compared by <, up to the first items that differ -/
mutual
def cmpb : PyData → PyData → Bool
  | .bool _, y => match y with | .bool _ => true | _ => false
  | .int _, y => match y with | .int _ => true | _ => false
  | .str _, y => match y with | .str _ => true | _ => false
  | .tuple xs, y => match y with | .tuple ys => cmpbAll xs ys | _ => false
  | .list _, _ => false
  | .none, _ => false
  | .dict _, _ => false
def cmpbAll : List PyData → List PyData → Bool
  | [], _ => true
  | x :: xs, zs => match zs with
    | [] => true
    | y :: ys => if PyData.eqv x y then cmpbAll xs ys else cmpb x y
end
abbrev LX (a b : List (Int ⊕ List Nat)) : Bool := PyProof.Rows.lexLt PyProof.Rows.itemOrd a b
theorem lx_same (p : Int ⊕ List Nat) (a b : List (Int ⊕ List Nat)) : LX (p :: a) (p :: b) = LX a b := PyProof.Rows.lex_self (O := PyProof.Rows.itemOrd) p a b
theorem lx_other {p q : Int ⊕ List Nat} (h : p ≠ q) (a b : List (Int ⊕ List Nat)) : LX (p :: a) (q :: b) = LX [p] [q] := lex_atom h a b
theorem lx_pre (p a b : List (Int ⊕ List Nat)) : LX (p ++ a) (p ++ b) = LX a b := lex_pre p a b
mutual
theorem eqv_toks : ∀ (x y : PyData), x.plain = true → y.plain = true → PyData.eqv x y = true → keyToks x = keyToks y
  | .none, y, _, hy, h => by
    cases y with
    | none => rfl
    | dict _ => cases hy
    | _ => simp [PyData.eqv] at h
  | .bool a, y, _, hy, h => by
    cases y with
    | bool b => have : a = b := by simpa [PyData.eqv] using h
                rw [this]
    | int j => have : (if a then (1 : Int) else 0) = j := by simpa [PyData.eqv] using h
               simp only [keyToks, this]
    | dict _ => cases hy
    | _ => simp [PyData.eqv] at h
  | .int i, y, _, hy, h => by
    cases y with
    | bool b => have : i = (if b then (1 : Int) else 0) := by simpa [PyData.eqv] using h
                simp only [keyToks, this]
    | int j => have : i = j := by simpa [PyData.eqv] using h
               rw [this]
    | dict _ => cases hy
    | _ => simp [PyData.eqv] at h
  | .str a, y, _, hy, h => by
    cases y with
    | str b => have : a = b := by simpa [PyData.eqv] using h
               rw [this]
    | dict _ => cases hy
    | _ => simp [PyData.eqv] at h
  | .list xs, y, hx, hy, h => by
    cases y with
    | list ys =>
      have := eqv_toksA xs ys (by simpa [PyData.plain] using hx) (by simpa [PyData.plain] using hy) (by simpa [PyData.eqv] using h)
      simp only [keyToks, this]
    | dict _ => cases hy
    | _ => simp [PyData.eqv] at h
  | .tuple xs, y, hx, hy, h => by
    cases y with
    | tuple ys =>
      have := eqv_toksA xs ys (by simpa [PyData.plain] using hx) (by simpa [PyData.plain] using hy) (by simpa [PyData.eqv] using h)
      simp only [keyToks, this]
    | dict _ => cases hy
    | _ => simp [PyData.eqv] at h
  | .dict _, _, hx, _, _ => by cases hx
theorem eqv_toksA : ∀ (xs ys : List PyData), PyData.plainAll xs = true → PyData.plainAll ys = true → PyData.eqvAll xs ys = true → keyToksAll xs = keyToksAll ys
  | [], [], _, _, _ => rfl
  | [], _ :: _, _, _, h => by simp [PyData.eqvAll] at h
  | _ :: _, [], _, _, h => by simp [PyData.eqvAll] at h
  | x :: xs, y :: ys, hx, hy, h => by
    obtain ⟨a1, a2⟩ := Bool.and_eq_true_iff.mp (show (x.plain && PyData.plainAll xs) = true by simpa [PyData.plainAll] using hx)
    obtain ⟨b1, b2⟩ := Bool.and_eq_true_iff.mp (show (y.plain && PyData.plainAll ys) = true by simpa [PyData.plainAll] using hy)
    rw [eqv_all_cons] at h
    obtain ⟨e1, e2⟩ := Bool.and_eq_true_iff.mp h
    rw [toks_all_cons, toks_all_cons, eqv_toks x y a1 b1 e1, eqv_toksA xs ys a2 b2 e2]
end
theorem plainC {x : PyData} {xs : List PyData} (h : PyData.plainAll (x :: xs) = true) : x.plain = true ∧ PyData.plainAll xs = true :=
  Bool.and_eq_true_iff.mp (show (x.plain && PyData.plainAll xs) = true by simpa [PyData.plainAll] using h)
mutual
/-- what differs, differs ahead of what lies behind -/
theorem cmp_lex : ∀ (x y : PyData), x.plain = true → y.plain = true → cmpb x y = true → PyData.eqv x y = false → ∀ l m, LX (keyToks x ++ l) (keyToks y ++ m) = LX (keyToks x) (keyToks y)
  | .none, _, _, _, h, _, _, _ => by simp [cmpb] at h
  | .bool a, y, _, _, h, e, l, m => by
    cases y with
    | bool b =>
      have hne : a ≠ b := fun q => by subst q; simp [PyData.eqv] at e
      have hq : (Sum.inl (if a then 1 else 0) : Int ⊕ List Nat) ≠ Sum.inl (if b then 1 else 0) := by cases a <;> cases b <;> simp_all
      simpa [keyToks] using lx_other hq l m
    | _ => simp [cmpb] at h
  | .int a, y, _, _, h, e, l, m => by
    cases y with
    | int b =>
      have hne : a ≠ b := fun q => by subst q; simp [PyData.eqv] at e
      have hq : (Sum.inl a : Int ⊕ List Nat) ≠ Sum.inl b := fun q => hne (Sum.inl.inj q)
      simpa [keyToks] using lx_other hq l m
    | _ => simp [cmpb] at h
  | .str a, y, _, _, h, e, l, m => by
    cases y with
    | str b =>
      have hne : a ≠ b := fun q => by subst q; simp [PyData.eqv] at e
      have hq : (Sum.inr a.cps.toList : Int ⊕ List Nat) ≠ Sum.inr b.cps.toList := fun q => hne (str_of_cps (Sum.inr.inj q))
      simpa [keyToks] using lx_other hq l m
    | _ => simp [cmpb] at h
  | .list _, _, _, _, h, _, _, _ => by simp [cmpb] at h
  | .tuple xs, y, hx, hy, h, e, l, m => by
    cases y with
    | tuple ys =>
      have := cmp_lexA xs ys (by simpa [PyData.plain] using hx) (by simpa [PyData.plain] using hy) (by simpa [cmpb] using h) (by simpa [PyData.eqv] using e) l m
      simpa [keyToks] using this
    | _ => simp [cmpb] at h
  | .dict _, _, hx, _, _, _, _, _ => by cases hx
theorem cmp_lexA : ∀ (xs ys : List PyData), PyData.plainAll xs = true → PyData.plainAll ys = true → cmpbAll xs ys = true → PyData.eqvAll xs ys = false → ∀ l m, LX (keyToksAll xs ++ l) (keyToksAll ys ++ m) = LX (keyToksAll xs) (keyToksAll ys)
  | [], [], _, _, _, e, _, _ => by simp [PyData.eqvAll] at e
  | [], y :: ys, _, _, _, _, l, m => by
    rw [toks_all_cons]
    simp only [keyToksAll, List.cons_append, List.nil_append]
    exact (lx_other (by simp) _ _).trans (lx_other (by simp) _ _).symm
  | x :: xs, [], _, _, _, _, l, m => by
    rw [toks_all_cons]
    simp only [keyToksAll, List.cons_append, List.nil_append]
    exact (lx_other (by simp) _ _).trans (lx_other (by simp) _ _).symm
  | x :: xs, y :: ys, hx, hy, h, e, l, m => by
    obtain ⟨a1, a2⟩ := plainC hx
    obtain ⟨b1, b2⟩ := plainC hy
    rw [eqv_all_cons] at e
    rw [toks_all_cons, toks_all_cons]
    simp only [List.cons_append, List.append_assoc]
    rw [lx_same, lx_same]
    cases q : PyData.eqv x y with
    | true =>
      rw [q, Bool.true_and] at e
      have h' : cmpbAll xs ys = true := by simpa [cmpbAll, q] using h
      rw [eqv_toks x y a1 b1 q, lx_pre, lx_pre]
      exact cmp_lexA xs ys a2 b2 h' e l m
    | false =>
      have h' : cmpb x y = true := by simpa [cmpbAll, q] using h
      rw [cmp_lex x y a1 b1 h' q, ← cmp_lex x y a1 b1 h' q (keyToksAll xs) (keyToksAll ys)]
end
theorem lt_yes {x y : PyData} {xs ys : List PyData} (hx : x.plain = true) (hy : y.plain = true) (e : PyData.eqv x y = true) : LX (keyToksAll (x :: xs)) (keyToksAll (y :: ys)) = LX (keyToksAll xs) (keyToksAll ys) := by
  rw [toks_all_cons, toks_all_cons, eqv_toks x y hx hy e, lx_same, lx_pre]
theorem lt_no {x y : PyData} {xs ys : List PyData} (hx : x.plain = true) (hy : y.plain = true) (h : cmpb x y = true) (e : PyData.eqv x y = false) : LX (keyToksAll (x :: xs)) (keyToksAll (y :: ys)) = dataLt x y := by
  rw [toks_all_cons, toks_all_cons, lx_same]
  exact cmp_lex x y hx hy h e _ _
theorem first_toks : ∀ (xs ys : List PyData), PyData.plainAll xs = true → PyData.plainAll ys = true → cmpbAll xs ys = true →
    firstLt (pairEq xs ys) (fun j => dataLt (xs.getD j .none) (ys.getD j .none)) (decide (xs.length < ys.length)) (List.range (min xs.length ys.length)) = LX (keyToksAll xs) (keyToksAll ys)
  | [], [], _, _, _ => by simp [firstLt, keyToksAll, LX, PyProof.Rows.lex_irrefl]
  | [], y :: ys, _, _, _ => by
    rw [toks_all_cons]
    simp only [keyToksAll]
    rw [lx_other (by simp), LX, PyProof.Rows.lex_diff (O := PyProof.Rows.itemOrd) (by simp)]
    simp [firstLt, PyProof.Rows.itemLt]
  | x :: xs, [], _, _, _ => by
    rw [toks_all_cons]
    simp only [keyToksAll]
    rw [lx_other (by simp), LX, PyProof.Rows.lex_diff (O := PyProof.Rows.itemOrd) (by simp)]
    simp [firstLt, PyProof.Rows.itemLt]
  | x :: xs, y :: ys, hx, hy, h => by
    obtain ⟨a1, a2⟩ := plainC hx
    obtain ⟨b1, b2⟩ := plainC hy
    have em : min (x :: xs).length (y :: ys).length = min xs.length ys.length + 1 := by simp only [List.length_cons]; omega
    have ed : decide ((x :: xs).length < (y :: ys).length) = decide (xs.length < ys.length) := decide_eq_decide.mpr (by simp only [List.length_cons]; omega)
    rw [em, ed, List.range_succ_eq_map]
    cases q : PyData.eqv x y with
    | true =>
      have h' : cmpbAll xs ys = true := by simpa [cmpbAll, q] using h
      rw [firstLt_yes (show pairEq (x :: xs) (y :: ys) 0 = true from q), firstLt_map, lt_yes a1 b1 q, ← first_toks xs ys a2 b2 h']
      rfl
    | false =>
      have h' : cmpb x y = true := by simpa [cmpbAll, q] using h
      rw [firstLt_no (show pairEq (x :: xs) (y :: ys) 0 = false from q), lt_no a1 b1 h' q]
      rfl
end DL
namespace DL
open PySem PySem.SeqAt
open AutoSeq1 (wpAny_loadPart')
open MeetsSeq MeetsSeq2 MeetsSeq3 SeqRoads2
/-- a place, where all ahead of it are equal -/
def Upto (e : Nat → Bool) (j : Nat) : Prop := ∀ i, i < j → e i = true
theorem tup_lt (p q : Addr) (xs ys : Array Value) (n k : Nat) (du dv : Option Addr) (su sv : Array (Option Value)) (e r : Nat → Bool) :
    Meets (Builtin.«tuple.__lt__» ⟨[.ref p, .ref q], []⟩)
      (fun A R s => s.heap.get? p = some { cls := .type "tuple", dict := du, data := .seq xs n, slots := su } ∧ s.heap.get? q = some { cls := .type "tuple", dict := dv, data := .seq ys k, slots := sv } ∧
        (∀ j (a : j < xs.size) (b : j < ys.size), EqAt A.in1 s xs[j] ys[j] (e j)) ∧ (∀ j (a : j < xs.size) (b : j < ys.size), Upto e j → e j = false → RcLt A.in1 s xs[j] ys[j] (r j)) ∧
        R (.ok (.ret (.bool (firstLt e r (decide (xs.size < ys.size)) (List.range (min xs.size ys.size)))))) s) :=
  .of_wp fun prog w A R s h => by
    obtain ⟨hp, g, d, tk, os⟩ := s; obtain ⟨hl, hq, he, hr, h⟩ := h
    have ft := AutoSeq1.sub_tuple_tuple
    have hZ : (xs.toList.zip ys.toList).length = min xs.size ys.size := by simp
    wp_walk using wpAny_loadPart' hl, wpAny_loadPart' hq, wpAny_forIn_list _ (fun rest b s' => b.1 = none ∧ s' = ⟨hp, g, d, tk, os⟩ ∧ ∃ i, rest = (xs.toList.zip ys.toList).drop i ∧ Upto e i ∧
      R (.ok (.ret (.bool (firstLt e r (decide (xs.size < ys.size)) ((List.range (min xs.size ys.size)).drop i))))) ⟨hp, g, d, tk, os⟩) _
    case turn =>
      rintro ⟨y, x⟩ rest b s' ⟨_, rfl, i, hz, up, hR⟩
      have hi : i < (xs.toList.zip ys.toList).length := by
        apply Classical.byContradiction
        intro no
        rw [List.drop_of_length_le (by omega)] at hz
        cases hz
      have i1 : i < xs.size := by omega
      have i2 : i < ys.size := by omega
      rw [List.drop_eq_getElem_cons hi] at hz
      injection hz with z1 z2
      have w1 : y = xs[i] := by simpa using congrArg Prod.fst z1
      have w2 : x = ys[i] := by simpa using congrArg Prod.snd z1
      subst w1 w2
      rw [show (List.range (min xs.size ys.size)).drop i = i :: (List.range (min xs.size ys.size)).drop (i + 1) by rw [List.drop_eq_getElem_cons (by simp; omega)]; simp] at hR
      refine wpAny_bind (he i i1 i2 prog w _ _ ?_)
      cases hy : e i with
      | true =>
        rw [firstLt_yes hy] at hR
        wp_walk
        refine ⟨rfl, rfl, i + 1, z2, fun j hj => ?_, hR⟩
        rcases Nat.lt_succ_iff_lt_or_eq.mp hj with u | u
        · exact up j u
        · exact u ▸ hy
      | false =>
        rw [firstLt_no hy] at hR
        rw [if_pos (show (!false) = true from rfl)]
        refine wpAny_bind (wpAny_rule ?_)
        refine wpAny_bind (hr i i1 i2 up hy prog w _ _ ?_)
        refine wpAny_bind (wpAny_pure ?_)
        refine wpAny_pure ?_
        exact wpAny_pure ⟨_, rfl, hR⟩
    case fin =>
      rintro ⟨b1, b2⟩ s' ⟨hb', rfl, i, hz, _, hR⟩
      simp only at hb'
      subst hb'
      have hge : min xs.size ys.size ≤ i := by
        apply Classical.byContradiction
        intro no
        rw [List.drop_eq_getElem_cons (show i < (xs.toList.zip ys.toList).length by omega)] at hz
        cases hz
      rw [List.drop_of_length_le (by simpa using hge)] at hR
      wp_walk
      exact ⟨_, rfl, by simpa [Builtin.Tuple.tupleCompareSizes, firstLt] using hR⟩
    case h =>
      exact ⟨rfl, rfl, 0, rfl, fun _ u => absurd u (Nat.not_lt_zero _), by simpa using h⟩
section
variable {A : Around} {s : Shared} {p q : Addr} {xs ys : Array Value} {e r : Nat → Bool}
theorem rc_tuples (hl : s.heap.IsTuple p xs) (hq : s.heap.IsTuple q ys) (hu : A.units < cLine)
    (he : ∀ j (a : j < xs.size) (b : j < ys.size), EqAt A.in1 s xs[j] ys[j] (e j)) (hr : ∀ j (a : j < xs.size) (b : j < ys.size), Upto e j → e j = false → RcLt A.in1 s xs[j] ys[j] (r j)) :
    RcLt A s (.ref p) (.ref q) (firstLt e r (decide (xs.size < ys.size)) (List.range (min xs.size ys.size))) := fun prog w E Q h => by
  obtain ⟨⟨c1, d1, a1, s1⟩, o1, e1, n1, f1⟩ := id hl
  obtain ⟨⟨c2, d2, a2, s2⟩, o2, e2, n2, f2⟩ := id hq
  simp only at e1 f1 e2 f2
  subst e1 f1 e2 f2
  exact richCompare_meets_room (op := .Lt) ⟨_, o1, rfl⟩ ⟨_, o2, rfl⟩ F.slot_tuple_lt F.entry_tuple_lt (F.args_tuple_lt_2 _ _) (tup_lt p q xs ys n1 n2 d1 d2 s1 s2 e r)
    ⟨o1, o2, he, hr, show Value.bool _ ≠ Value.notImplemented ∧ Q (.bool (firstLt e r (decide (xs.size < ys.size)) (List.range (min xs.size ys.size)))) s from ⟨(fun x => nomatch x), h⟩⟩ hu
/-- tuple's own <, as sorting calls it -/
theorem call_tup_lt {prog : Program} {w : World} {E : Value → Shared → Prop} {Q : Value → Shared → Prop} (hl : s.heap.IsTuple p xs) (hq : s.heap.IsTuple q ys)
    (he : ∀ j (a : j < xs.size) (b : j < ys.size), EqAt A.in1 s xs[j] ys[j] (e j)) (hr : ∀ j (a : j < xs.size) (b : j < ys.size), Upto e j → e j = false → RcLt A.in1 s xs[j] ys[j] (r j))
    (h : Q (.bool (firstLt e r (decide (xs.size < ys.size)) (List.range (min xs.size ys.size)))) s) : wpAny (model prog w) A (call (.builtin "tuple.__lt__") [.ref p, .ref q]) Q E s := by
  obtain ⟨⟨c1, d1, a1, s1⟩, o1, e1, n1, f1⟩ := id hl
  obtain ⟨⟨c2, d2, a2, s2⟩, o2, e2, n2, f2⟩ := id hq
  simp only at e1 f1 e2 f2
  subst e1 f1 e2 f2
  exact call_meets F.slot_tuple_lt ⟨_, o1, rfl⟩ F.entry_tuple_lt (F.args_tuple_lt_2 _ _) (tup_lt p q xs ys n1 n2 d1 d2 s1 s2 e r) ⟨o1, o2, he, hr, h⟩
end
end DL
namespace DL
open PySem PySem.SeqAt PySem.W PySem.Calls
theorem pe_cons {x y : PyData} {xs ys : List PyData} {j : Nat} : pairEq (x :: xs) (y :: ys) (j + 1) = pairEq xs ys j := rfl
mutual
/-- a < b of data that can be compared -/
theorem rc_cmp : ∀ (da db : PyData) (A : Around) (s : Shared) (a b : Value) (as bs : List Addr), Reads s.heap a da as → Reads s.heap b db bs → da.plain = true → db.plain = true → cmpb da db = true → A.units + min da.depth db.depth < cLine → RcLt A s a b (dataLt da db)
  | .none, _, _, _, _, _, _, _, _, _, _, _, h, _ => by simp [cmpb] at h
  | .bool x, db, A, s, a, b, as, bs, ra, rb, _, _, h, _ => by
    cases db with
    | bool y =>
      cases ra; cases rb
      intro prog w E Q hq
      rw [dataLt_bool] at hq
      exact PyProof.Rows.lt_bool hq
    | _ => simp [cmpb] at h
  | .int x, db, A, s, a, b, as, bs, ra, rb, _, _, h, _ => by
    cases db with
    | int y =>
      cases ra; cases rb
      intro prog w E Q hq
      rw [dataLt_int] at hq
      exact P.lt_int hq
    | _ => simp [cmpb] at h
  | .str x, db, A, s, a, b, as, bs, ra, rb, _, _, h, _ => by
    cases db with
    | str y =>
      cases ra; cases rb
      intro prog w E Q hq
      rw [dataLt_str] at hq
      exact P.lt_str hq
    | _ => simp [cmpb] at h
  | .list _, _, _, _, _, _, _, _, _, _, _, _, h, _ => by simp [cmpb] at h
  | .tuple xs, db, A, s, a, b, as, bs, ra, rb, pa, pb, h, hu => by
    cases db with
    | tuple ys =>
      have hc : cmpbAll xs ys = true := by simpa [cmpb] using h
      have px : PyData.plainAll xs = true := by simpa [PyData.plain] using pa
      have py : PyData.plainAll ys = true := by simpa [PyData.plain] using pb
      cases ra with
      | @tuple l o vs n _ _ h1 h2 h3 h4 =>
        cases rb with
        | @tuple m o' ws n' _ _ k1 k2 k3 k4 =>
          have n1 : vs.size = xs.length := by simpa using ReadsAll.length _ _ _ h4
          have n2 : ws.size = ys.length := by simpa using ReadsAll.length _ _ _ k4
          rw [dataLt_tuple, show PyProof.Rows.lexLt PyProof.Rows.itemOrd (keyToksAll xs) (keyToksAll ys) = _ from (first_toks xs ys px py hc).symm, ← n1, ← n2]
          refine rc_tuples ⟨_, h1, h2, _, h3⟩ ⟨_, k1, k2, _, k3⟩ (room_here hu) (fun j j1 j2 => ?_) fun j j1 j2 up hj => ?_
          · have z := eqAt_plainAll xs ys A.in1 s vs.toList ws.toList _ _ h4 k4 px py (room_in hu) j (by simpa using j1) (by simpa using j2)
            simpa using z
          · have z := rc_cmpA xs ys A.in1 s vs.toList ws.toList _ _ h4 k4 px py hc (room_in hu) j (by simpa using j1) (by simpa using j2) up hj
            simpa using z
    | _ => simp [cmpb] at h
  | .dict _, _, _, _, _, _, _, _, _, _, _, _, h, _ => by simp [cmpb] at h
theorem rc_cmpA : ∀ (xs ys : List PyData) (A : Around) (s : Shared) (vs ws : List Value) (as bs : List Addr), ReadsAll s.heap vs xs as → ReadsAll s.heap ws ys bs → PyData.plainAll xs = true → PyData.plainAll ys = true → cmpbAll xs ys = true →
    A.units + min (PyData.depthAll xs) (PyData.depthAll ys) < cLine → ∀ j (h1 : j < vs.length) (h2 : j < ws.length), Upto (pairEq xs ys) j → pairEq xs ys j = false → RcLt A s vs[j] ws[j] (dataLt (xs.getD j .none) (ys.getD j .none))
  | [], _, _, _, _, _, _, _, ra, _, _, _, _, _, j, h1, _, _, _ => by cases ra; exact absurd h1 (Nat.not_lt_zero _)
  | _ :: _, [], _, _, _, _, _, _, _, rb, _, _, _, _, j, _, h2, _, _ => by cases rb; exact absurd h2 (Nat.not_lt_zero _)
  | x :: xs, y :: ys, A, s, _, _, _, _, ra, rb, px, py, h, hu, j, h1, h2, up, hj => by
    obtain ⟨a1, a2⟩ := plainC px
    obtain ⟨b1, b2⟩ := plainC py
    cases ra with
    | cons r rs =>
      cases rb with
      | cons r' rs' =>
        cases j with
        | zero =>
          have q : PyData.eqv x y = false := hj
          exact rc_cmp x y A s _ _ _ _ r r' a1 b1 (by simpa [cmpbAll, q] using h) (room_head hu)
        | succ j =>
          have q : PyData.eqv x y = true := up 0 (Nat.succ_pos _)
          exact rc_cmpA xs ys A s _ _ _ _ rs rs' a2 b2 (by simpa [cmpbAll, q] using h) (room_tail hu) j (Nat.lt_of_succ_lt_succ h1) (Nat.lt_of_succ_lt_succ h2) (fun i hi => up (i + 1) (Nat.succ_lt_succ hi)) hj
end
end DL
namespace DL
open PySem PySem.SeqAt PySem.W PySem.Calls PyProof.Rows
section
variable {prog : Program} {w : World} {A : Around} {E : Value → Shared → Prop} {s : Shared}
/-- as sorting compares: one key with another -/
theorem one_cmp {f : Bool} {da db : PyData} {a b : Value} {as bs : List Addr} {Q : Bool → Shared → Prop} (ra : Reads s.heap a da as) (rb : Reads s.heap b db bs) (pa : da.plain = true) (pb : db.plain = true) (h : cmpb da db = true)
    (hu : A.units + min da.depth db.depth < cLine) (hq : Q (dataLt da db) s) : wpAny (model prog w) A (oneLt' f a b) Q E s := by
  cases f with
  | false =>
    rw [oneLt'_eq, if_neg Bool.false_ne_true]
    exact wpAny_bind (rc_cmp da db A s a b as bs ra rb pa pb h hu prog w E _ (wpAny_truthy_bool hq))
  | true =>
    cases da with
    | bool x =>
      cases db with
      | bool y =>
        cases ra; cases rb
        rw [dataLt_bool] at hq
        exact oneLt_bool hq
      | _ => simp [cmpb] at h
    | int x =>
      cases db with
      | int y =>
        cases ra; cases rb
        rw [dataLt_int] at hq
        exact oneLt_int hq
      | _ => simp [cmpb] at h
    | str x =>
      cases db with
      | str y =>
        cases ra; cases rb
        rw [dataLt_str] at hq
        exact oneLt_str hq
      | _ => simp [cmpb] at h
    | tuple xs =>
      cases db with
      | tuple ys =>
        have hc : cmpbAll xs ys = true := by simpa [cmpb] using h
        have px : PyData.plainAll xs = true := by simpa [PyData.plain] using pa
        have py : PyData.plainAll ys = true := by simpa [PyData.plain] using pb
        cases ra with
        | @tuple l o vs n _ _ h1 h2 h3 h4 =>
          cases rb with
          | @tuple m o' ws n' _ _ k1 k2 k3 k4 =>
            have n1 : vs.size = xs.length := by simpa using ReadsAll.length _ _ _ h4
            have n2 : ws.size = ys.length := by simpa using ReadsAll.length _ _ _ k4
            rw [dataLt_tuple, show PyProof.Rows.lexLt PyProof.Rows.itemOrd (keyToksAll xs) (keyToksAll ys) = _ from (first_toks xs ys px py hc).symm, ← n1, ← n2] at hq
            rw [oneLt'_eq, if_pos rfl]
            refine wpAny_bind (wpAny_cRoomFor (room_here hu) ?_)
            refine wpAny_bind (wpAny_callSpecialIfBound?_slot (T := "tuple") ⟨_, h1, h2⟩ F.slot_tuple_lt (call_tup_lt (e := pairEq xs ys) (r := fun j => dataLt (xs.getD j .none) (ys.getD j .none)) ⟨_, h1, h2, _, h3⟩ ⟨_, k1, k2, _, k3⟩ (fun j j1 j2 => ?_) (fun j j1 j2 up hj => ?_) ?_))
            · have z := eqAt_plainAll xs ys A.in1 s vs.toList ws.toList _ _ h4 k4 px py (room_in hu) j (by simpa using j1) (by simpa using j2)
              simpa using z
            · have z := rc_cmpA xs ys A.in1 s vs.toList ws.toList _ _ h4 k4 px py hc (room_in hu) j (by simpa using j1) (by simpa using j2) up hj
              simpa using z
            · exact wpAny_truthy_bool hq
      | _ => simp [cmpb] at h
    | _ => simp [cmpb] at h
/-- keys that are tuples, item by item -/
theorem kat_cmp {b fin : Bool} {Q : Bool → Shared → Prop} : ∀ (xs ys : List PyData) (i : Nat) (vs ws : List Value) (as bs : List Addr), ReadsAll s.heap vs xs as → ReadsAll s.heap ws ys bs → PyData.plainAll xs = true → PyData.plainAll ys = true → cmpbAll xs ys = true →
    A.units + min (PyData.depthAll xs) (PyData.depthAll ys) < cLine → fin = decide (xs.length < ys.length) → Q (LX (keyToksAll xs) (keyToksAll ys)) s → KatLex prog w A b fin Q (vs.zip ws) i s
  | [], [], i, _, _, _, _, ra, rb, _, _, _, _, hf, hq => by
    cases ra; cases rb
    rw [LX, lex_irrefl] at hq
    rw [show fin = false from hf]
    exact kat_nil hq
  | [], y :: ys, i, _, _, _, _, ra, rb, _, _, _, _, hf, hq => by
    cases ra
    rw [show fin = true from hf.trans (decide_eq_true (Nat.succ_pos _))]
    rw [toks_all_cons, keyToksAll, lx_other (by simp), LX, lex_diff (O := itemOrd) (by simp)] at hq
    rw [List.zip_nil_left]
    exact kat_nil (by simpa [itemLt] using hq)
  | x :: xs, [], i, _, _, _, _, ra, rb, _, _, _, _, hf, hq => by
    cases rb
    rw [show fin = false from hf.trans (decide_eq_false (Nat.not_lt_zero _))]
    rw [toks_all_cons, keyToksAll, lx_other (by simp), LX, lex_diff (O := itemOrd) (by simp)] at hq
    rw [List.zip_nil_right]
    exact kat_nil (by simpa [itemLt] using hq)
  | x :: xs, y :: ys, i, _, _, _, _, ra, rb, px, py, h, hu, hf, hq => by
    obtain ⟨a1, a2⟩ := plainC px
    obtain ⟨b1, b2⟩ := plainC py
    have hf' : fin = decide (xs.length < ys.length) := hf.trans (decide_eq_decide.mpr (by simp only [List.length_cons]; omega))
    cases ra with
    | cons r rs =>
      cases rb with
      | cons r' rs' =>
        rw [List.zip_cons_cons]
        refine kat_cons (eqAt_plain x y A s _ _ _ _ r r' a1 b1 (room_head hu) prog w _ _ ?_)
        cases q : PyData.eqv x y with
        | true =>
          rw [lt_yes a1 b1 q] at hq
          exact kat_yes (kat_cmp xs ys (i + 1) _ _ _ _ rs rs' a2 b2 (by simpa [cmpbAll, q] using h) (room_tail hu) hf' hq)
        | false =>
          have hc : cmpb x y = true := by simpa [cmpbAll, q] using h
          rw [lt_no a1 b1 hc q] at hq
          exact kat_no (one_cmp r r' a1 b1 hc (room_head hu) hq)
end
end DL
namespace DL
open PySem PySem.SeqAt PySem.W PySem.Calls PyProof.Rows
/-! ### what can be sorted -/
structure Sb (ds : List PyData) : Prop where
  plain : ∀ d ∈ ds, d.plain = true
  cmp : ∀ d ∈ ds, ∀ d' ∈ ds, cmpb d d' = true
  kind : (∀ d ∈ ds, ∃ xs, d = .tuple xs) ∨ ∃ T, (T != Value.type "tuple") = true ∧ (T == T) = true ∧ ∀ d ∈ ds, dataType d = T
theorem dk_some {h : Heap} {ds : List PyData} (hp : ∀ d ∈ ds, d.plain = true) {v : Value} {d : PyData} {as : List Addr} (hd : d ∈ ds) (r : Reads h v d as) : (dataKind h ds).keyOf v = some (keyToks d) := by
  have q : ∃ d, d ∈ ds ∧ ∃ as, Reads h v d as := ⟨d, hd, as, r⟩
  cases e : (dataKind h ds).keyOf v with
  | none =>
    exfalso
    have : (dataKind h ds).keyOf v = some (keyToks q.choose) := by unfold dataKind; exact dif_pos q
    rw [this] at e
    cases e
  | some k =>
    obtain ⟨d', as', h1, h2, rfl⟩ := dataKind_inv e
    rw [plain_unique d d' v as as' (hp d hd) r h2]
    rfl
section
variable {prog : Program} {w : World} {A : Around} {s : Shared}
theorem mapM_each {M : Model} {E : Value → Shared → Prop} {β : Type} {f : Value → Sem β} {g : Value → β} : ∀ (l : List Value) {Q : List β → Shared → Prop}, (∀ v ∈ l, ∀ (Q' : β → Shared → Prop), Q' (g v) s → wpAny M A (f v) Q' E s) → Q (l.map g) s → wpAny M A (l.mapM f) Q E s
  | [], _, _, h => by
    rw [List.mapM_nil]
    exact wpAny_pure h
  | x :: l, Q, hf, h => by
    rw [List.mapM_cons]
    refine wpAny_bind (hf x (List.mem_cons_self ..) _ (wpAny_bind (mapM_each l (Q := fun bs s' => wpAny M A (pure (g x :: bs)) Q E s') (fun v hv => hf v (List.mem_cons_of_mem _ hv)) (wpAny_pure h))))
def firstV (h : Heap) (v : Value) : Option Value := match v with
  | .ref a => match h.get? a with
    | some o => match o.data with
      | .seq xs _ => xs[0]?
      | _ => none
    | none => none
  | _ => none
theorem firstV_at {h : Heap} {a : Addr} {o : Obj} {xs : Array Value} {n : Nat} (ho : h.get? a = some o) (hd : o.data = .seq xs n) : firstV h (.ref a) = xs[0]? := by
  simp only [firstV, ho, hd]
/-- the kind that sorting finds for tuples -/
theorem kind_tuples {M : Model} {vs : List Value} {ds : List PyData} (e : EachIs (fun v d => ∃ as, Reads s.heap v d as) vs ds) (ht : ∀ d ∈ ds, ∃ xs, d = .tuple xs) (hp : ∀ d ∈ ds, d.plain = true) (h2 : 2 ≤ vs.length) :
    ∃ kd : SortKind, (kd = general' ∨ kd = oneType' ∨ ∃ b, kd = tuples' b) ∧ ∀ (E : Value → Shared → Prop) {Q : SortKind → Shared → Prop}, Q kd s → wpAny M A (keyKind' vs.toArray) Q E s := by
  obtain ⟨v₁, v₂, rest, rfl⟩ : ∃ v₁ v₂ rest, vs = v₁ :: v₂ :: rest := by
    rcases vs with _ | ⟨x, _ | ⟨y, t⟩⟩
    · simp at h2
    · simp at h2
    · exact ⟨x, y, t, rfl⟩
  have at_ : ∀ v ∈ v₁ :: v₂ :: rest, ∃ a o xs n zs as, v = .ref a ∧ s.heap.get? a = some o ∧ o.cls = .type "tuple" ∧ o.data = .seq xs n ∧ PyData.tuple zs ∈ ds ∧ ReadsAll s.heap xs.toList zs as := by
    intro v hv
    obtain ⟨d, hd, as, r⟩ := e.left v hv
    obtain ⟨zs, rfl⟩ := ht d hd
    cases r with
    | tuple h1 h2 h3 h4 => exact ⟨_, _, _, _, zs, _, rfl, h1, h2, h3, hd, h4⟩
  have first_ : ∀ (E : Value → Shared → Prop) (v : Value), v ∈ v₁ :: v₂ :: rest → ∀ Q' : Option Value → Shared → Prop, Q' (firstV s.heap v) s → wpAny M A (firstOfTuple' v) Q' E s := by
    intro E v hv Q' hq
    obtain ⟨a, o, xs, n, zs, as, rfl, ho, hc, hd, _, _⟩ := at_ v hv
    rw [firstV_at ho hd] at hq
    rw [kas_first_eq]
    have lk : Looks M s.heap (typeOf (.ref a)) o.cls := (Looks.ld ho).andThen .now
    refine wpAny_bind (lk.here ?_)
    rw [hc, if_neg (by simp)]
    exact wpAny_bind (listItems_at ho hd (wpAny_pure hq))
  by_cases hall : (((v₁ :: v₂ :: rest).map (firstV s.heap)).toArray.all fun x => x.isSome) = true
  · have fsr : ∀ f ∈ ((v₁ :: v₂ :: rest).map (firstV s.heap)).filterMap id, ∃ d as, Reads s.heap f d as ∧ d.plain = true := by
      intro f hf
      obtain ⟨g, hg, eg⟩ := List.mem_filterMap.mp hf
      obtain ⟨v, hv, ev⟩ := List.mem_map.mp hg
      obtain ⟨a, o, xs, n, zs, as, rfl, ho, hc, hd, hm, hr⟩ := at_ v hv
      rw [firstV_at ho hd] at ev
      have e0 : xs[0]? = some f := ev.trans (by simpa using eg)
      have pz : PyData.plainAll zs = true := by simpa [PyData.plain] using hp _ hm
      cases q : xs.toList with
      | nil =>
        rw [← Array.getElem?_toList, q] at e0
        cases e0
      | cons x0 xr =>
        rw [← Array.getElem?_toList, q] at e0
        cases e0
        rw [q] at hr
        cases hr with
        | cons r1 r2 =>
          exact ⟨_, _, r1, (plainC pz).1⟩
    generalize hF : ((v₁ :: v₂ :: rest).map (firstV s.heap)).filterMap id = fs at fsr
    refine ⟨tuples' (((match (fs.map fun f => dataType (readOf s.heap f)).toArray[0]? with
      | some t => if (fs.map fun f => dataType (readOf s.heap f)).toArray.all (· == t) then some t else none
      | none => none) : Option Value).any (· != .type "tuple")), .inr (.inr ⟨_, rfl⟩), fun E Q hq => ?_⟩
    rw [keyKind'_eq, List.mapM_toArray, map_eq_pure_bind]
    refine wpAny_bind (wpAny_bind (mapM_each (g := firstV s.heap) _ (first_ E) (wpAny_pure ?_)))
    rw [if_pos hall]
    refine wpAny_bind (wpAny_rule ?_)
    rw [show (((v₁ :: v₂ :: rest).map (firstV s.heap)).toArray.filterMap id) = fs.toArray by rw [← hF]; simp, oneTypeOnly'_eq, List.mapM_toArray, map_eq_pure_bind]
    refine wpAny_bind (wpAny_bind (wpAny_bind (mapM_each (g := fun f => dataType (readOf s.heap f)) _ (fun f hf Q' hq' => ?_) (wpAny_pure ?_))))
    · obtain ⟨d, as, r, pd⟩ := fsr f hf
      rw [readOf_plain pd r] at hq'
      exact (looks_reads r).here hq'
    · split
      · next t ht => rw [ht] at hq; exact wpAny_pure (wpAny_pure hq)
      · next ht => rw [ht] at hq; exact wpAny_pure (wpAny_pure hq)
  · refine ⟨if ((((v₁ :: v₂ :: rest).map (firstV s.heap)).toArray[0]?).bind id).isSome = true then general' else oneType', ?_, fun E Q hq => ?_⟩
    · split
      · exact .inl rfl
      · exact .inr (.inl rfl)
    · rw [keyKind'_eq, List.mapM_toArray, map_eq_pure_bind]
      refine wpAny_bind (wpAny_bind (mapM_each (g := firstV s.heap) _ (first_ E) (wpAny_pure ?_)))
      rw [if_neg hall]
      by_cases h0 : ((((v₁ :: v₂ :: rest).map (firstV s.heap)).toArray[0]?).bind id).isSome = true
      · rw [if_pos h0] at hq ⊢
        exact wpAny_pure hq
      · rw [if_neg h0] at hq ⊢
        rw [oneTypeOnly'_eq, List.mapM_toArray, map_eq_pure_bind]
        refine wpAny_bind (wpAny_bind (wpAny_bind (mapM_each (g := fun _ => Value.type "tuple") _ (fun f hf Q' hq' => ?_) (wpAny_pure ?_))))
        · obtain ⟨a, o, xs, n, zs, as, rfl, ho, hc, _⟩ := at_ f hf
          have lk : Looks M s.heap (typeOf (.ref a)) o.cls := (Looks.ld ho).andThen .now
          rw [hc] at lk
          exact lk.here hq'
        · rw [show (List.map (fun _ => Value.type "tuple") (v₁ :: v₂ :: rest)).toArray[0]? = some (Value.type "tuple") by simp]
          have hq2 : ((List.map (fun _ => Value.type "tuple") (v₁ :: v₂ :: rest)).toArray.all fun x => x == Value.type "tuple") = true := by
            rw [List.all_toArray, List.all_map, List.all_eq_true]
            intro _ _
            rfl
          simp only [hq2, if_true]
          exact wpAny_pure (wpAny_pure hq)
theorem lt_general (x y : Value) : keyLt' general' x y = oneLt' false x y := rfl
/-- data that can be compared can be sorted -/
theorem sorts_cmp {vs : List Value} {ds : List PyData} (e : EachIs (fun v d => ∃ as, Reads s.heap v d as) vs ds) (S : Sb ds) (hu : ∀ d ∈ ds, A.units + d.depth < cLine) : SortsAt prog w A s (dataKind s.heap ds) vs := by
  have one : ∀ (f : Bool) (E : Value → Shared → Prop) (x y : Value) (a b : (dataKind s.heap ds).α) {Q : Bool → Shared → Prop}, (dataKind s.heap ds).keyOf x = some a → (dataKind s.heap ds).keyOf y = some b → Q ((dataKind s.heap ds).blt a b) s → wpAny (model prog w) A (oneLt' f x y) Q E s := by
    intro f E x y a b Q ha hb hq
    obtain ⟨d, as, hd, ra, rfl⟩ := dataKind_inv ha
    obtain ⟨d', as', hd', rb, rfl⟩ := dataKind_inv hb
    have := hu d hd
    exact one_cmp ra rb (S.plain d hd) (S.plain d' hd') (S.cmp d hd d' hd') (by omega) hq
  refine ⟨fun v hv => ?_, ?_⟩
  · obtain ⟨d, hd, as, r⟩ := e.left v hv
    exact ⟨_, dk_some S.plain hd r⟩
  · rcases S.kind with ht | ⟨T, t1, t2, t3⟩
    · by_cases h2 : 2 ≤ vs.length
      · obtain ⟨kd, hk, run⟩ := kind_tuples (M := model prog w) (A := A) e ht S.plain h2
        refine ⟨kd, ?_, fun _ E Q hq => run E hq⟩
        rcases hk with rfl | rfl | ⟨b, rfl⟩
        · intro E x y a b Q ha hb hq
          rw [lt_general]
          exact one false E x y a b ha hb hq
        · intro E x y a b Q ha hb hq
          rw [keyLt'_oneType]
          exact one true E x y a b ha hb hq
        · intro E x y a b' Q ha hb hq
          obtain ⟨d, as, hd, ra, rfl⟩ := dataKind_inv ha
          obtain ⟨d', as', hd', rb, rfl⟩ := dataKind_inv hb
          have hroom := hu d hd
          have hc := S.cmp d hd d' hd'
          have p1 := S.plain d hd
          have p2 := S.plain d' hd'
          obtain ⟨xs, rfl⟩ := ht d hd
          obtain ⟨ys, rfl⟩ := ht d' hd'
          have px : PyData.plainAll xs = true := by simpa [PyData.plain] using p1
          have py : PyData.plainAll ys = true := by simpa [PyData.plain] using p2
          have hq' : Q (dataLt (.tuple xs) (.tuple ys)) s := hq
          rw [dataLt_tuple] at hq'
          simp only [PyData.depth] at hroom
          cases ra with
          | @tuple l o zs n _ _ h1 h2 h3 h4 =>
            cases rb with
            | @tuple l' o' zs' n' _ _ k1 k2 k3 k4 =>
              have n1 : zs.size = xs.length := by simpa using ReadsAll.length _ _ _ h4
              have n2 : zs'.size = ys.length := by simpa using ReadsAll.length _ _ _ k4
              exact kat_lt h1 h3 k1 k3 (kat_cmp xs ys 0 _ _ _ _ h4 k4 px py (by simpa [cmpb] using hc) (by omega) (by rw [n1, n2]) hq')
      · refine ⟨general', fun E x y a b Q ha hb hq => ?_, fun h => absurd h h2⟩
        rw [lt_general]
        exact one false E x y a b ha hb hq
    · refine ⟨oneType', fun E x y a b Q ha hb hq => ?_, fun h2 E Q hq => ?_⟩
      · rw [keyLt'_oneType]
        exact one true E x y a b ha hb hq
      · refine kas_kind (T := T) h2 (fun v hv => ?_) t1 t2 hq
        obtain ⟨d, hd, as, r⟩ := e.left v hv
        rw [← t3 d hd]
        exact looks_reads r
end
end DL
namespace DL
open PySem PySem.Spec PyProof.Rows L2 PySem.W
/-! ### sorted(x) -/
def leT (a b : PyData) : Bool := sortLe (listOrd itemOrd) false keyToks a b
def D.le (a b : D) : Bool := leT a.py b.py
def sortD (ds : List D) : List D := ds.mergeSort D.le
theorem sortD_len (ds : List D) : (sortD ds).length = ds.length := (List.mergeSort_perm ds D.le).length_eq
theorem leT_total : TotalLe leT := sortLe_total (listOrd itemOrd) false keyToks
theorem dle_total : TotalLe D.le := ⟨fun a b c h1 h2 => leT_total.trans _ _ _ h1 h2, fun a b => leT_total.total _ _⟩
def rSortD (K : PySem.W.Frag) : List V → Hp → VK → Prop := fun vs H Q => ∃ (a : Addr) (zs : List (V × PyData)), vs = [V.ref a] ∧ SqL K H a (zs.map (·.1)) ∧ (∀ z ∈ zs, Dp K H z.1 z.2) ∧ Sb (zs.map (·.2)) ∧ (∀ z ∈ zs, z.2.depth ≤ 60) ∧
  ∀ p, H p = none → Q (.ref p) (upd H p (.lst ((zs.mergeSort fun x y => leT x.2 y.2).map (·.1))))
section
variable {X : Cx} {pins : List (Addr × Obj)} {σ : L2.St} {H : Hp} {s : Shared}
theorem each_of (I : Inv X pins σ H s) : ∀ {zs : List (V × PyData)} {us : List Value}, Vals (zs.map (·.1)) us → (∀ z ∈ zs, Dp X.K H z.1 z.2) → EachIs (fun u (z : V × PyData) => L2.RelV z.1 u ∧ ∃ as, Reads s.heap u z.2 as) us zs
  | [], _, .nil, _ => .nil
  | z :: zs, _, .cons r t, h => .cons ⟨r, Dp.reads I z.2 z.1 _ (h z (List.mem_cons_self ..)) r⟩ (each_of I t fun y hy => h y (List.mem_cons_of_mem _ hy))
theorem vals_each : ∀ {zs : List (V × PyData)} {us : List Value} {P : Value → V × PyData → Prop}, EachIs (fun u z => L2.RelV z.1 u ∧ P u z) us zs → Vals (zs.map (·.1)) us
  | [], _, _, .nil => .nil
  | _ :: _, _, _, .cons h t => .cons h.1 (vals_each t)
theorem cr_sortD (hu : X.A.units + 200 < cLine) : CallR X (.builtin "sorted") (rSortD X.K) := by
  intro pins s σ H vs us Q I r h
  obtain ⟨a, zs, rfl, hs, hd, S, hz, q⟩ := h
  obtain ⟨its, rv, hl, hsz⟩ := I.list hs
  rw [Vals.ref1 r]
  have e := each_of I rv hd
  have el := e.length
  rw [List.length_map] at hsz
  let G := sortingHeap (copyHeap s.heap its) (s.heap.objs.size + 1) its
  have e2 : EachIs (fun u (z : V × PyData) => L2.RelV z.1 u ∧ ∃ as, Reads G u z.2 as) its zs := e.mono fun u z ⟨h1, as, h2⟩ => ⟨h1, as, Reads.keeps (fun _ _ => sorting_copy_old) h2⟩
  have e3 : EachIs (fun u d => ∃ as, Reads G u d as) its (zs.map (·.2)) := each_map (R := fun u d => ∃ as, Reads G u d as) (·.2) (e2.mono fun _ _ h => h.2)
  have hu2 : ∀ d ∈ zs.map (·.2), X.A.in1.in1.units + d.depth < cLine := by
    intro d hd
    obtain ⟨z, hz1, rfl⟩ := List.mem_map.mp hd
    have := hz z hz1
    show X.A.units + 1 + 1 + z.2.depth < cLine
    omega
  refine sorted_vals hl.isList (sorts_cmp (s := { s with heap := G }) e3 S hu2) (by omega) ?_
  have hk : EachIs (fun v (b : V × PyData) => (dataKind G (zs.map (·.2))).keyOf v = some (keyToks b.2)) its zs := by
    have : ∀ {us : List Value} {ys : List (V × PyData)}, (∀ y ∈ ys, y.2 ∈ zs.map (·.2)) → EachIs (fun u (z : V × PyData) => L2.RelV z.1 u ∧ ∃ as, Reads G u z.2 as) us ys → EachIs (fun v (b : V × PyData) => (dataKind G (zs.map (·.2))).keyOf v = some (keyToks b.2)) us ys := by
      intro us ys hm h
      induction h with
      | nil => exact .nil
      | cons h t ih =>
        obtain ⟨_, as, h2⟩ := h
        exact .cons (dk_some S.plain (hm _ (List.mem_cons_self ..)) h2) (ih fun y hy => hm y (List.mem_cons_of_mem _ hy))
    exact this (fun y hy => List.mem_map.mpr ⟨y, hy, rfl⟩) e2
  have o := sortVals_each (κ := dataKind G (zs.map (·.2))) (rev := false) (fun b : V × PyData => keyToks b.2) e2 hk
  obtain ⟨ep, he⟩ := sortedAll_at s.heap its (sortVals (dataKind G (zs.map (·.2))) false its its).toArray
  have hlen : ((zs.mergeSort fun x y => leT x.2 y.2).map (·.1)).length ≤ sizeLine := by
    rw [List.length_map, (List.mergeSort_perm zs _).length_eq]
    exact hsz
  exact ⟨.ref _, upd H (s.heap.objs.size + 1) (.lst ((zs.mergeSort fun x y => leT x.2 y.2).map (·.1))), I.laid (t' := s.toks) (fun _ _ => sortedAll_old) (Nat.le_succ _) ⟨hlen, _, ep, vals_each o, he⟩, rfl, q _ (I.hok.fresh (Nat.le_succ _))⟩

/-! ### repr(x) -/
def rRepr (K : PySem.W.Frag) : List V → Hp → VK → Prop := fun vs H Q => ∃ (a : Addr) (d : PyData), vs = [V.ref a] ∧ Dp K H (.ref a) d ∧ d.showable = true ∧ d.hasDict = false ∧ d.depth ≤ 60 ∧ d.shown.length ≤ sizeLine ∧ Q (.str d.shown) H
theorem cr_repr (hu : X.A.units + 200 < cLine) (hg : X.A.guards = some []) : CallR X (.builtin "repr") (rRepr X.K) := by
  intro pins s σ H vs us Q I r h
  obtain ⟨a, d, rfl, hd, h1, h2, h3, h4, q⟩ := h
  rw [Vals.ref1 r]
  obtain ⟨as, rd⟩ := Dp.reads I d (.ref a) (.ref a) hd rfl
  refine repr_of_reads' (h₀ := s.heap) rd h1 (fun e => by rw [h2] at e; cases e) hg (by omega) (fun _ _ e => e) (fun h' u tk k => ?_) h4
  exact ⟨.str d.shown, H, I.kept k, ⟨_, rfl⟩, q⟩
end
end DL
namespace DL
open PySem PySem.Spec PyProof.Rows L2
/-! ### the built-in names, by AST -/
structure Bl (mg : Str → Option Value) : Prop where
  len : mg "len" = none
  list : mg "list" = none
  tuple : mg "tuple" = none
  sorted : mg "sorted" = none
  range : mg "range" = none
  all : mg "all" = none
  isinstance : mg "isinstance" = none
  int : mg "int" = none
  str : mg "str" = none
  abs : mg "abs" = none
  zip : mg "zip" = none
  enumerate : mg "enumerate" = none
  repr : mg "repr" = none
  dict : mg "dict" = none
  bool : mg "bool" = none
section
variable {I : Type} {F : I → Cx} {K : PySem.W.Frag} {mg : Str → Option Value} {N : List Str} {ρ : Env} {R : Rs} {Φ : Φ1} {ΦT : Bool → Rs → Prop} {e a b : Expr} {pos p p2 : Pos}
theorem e_len (B : Bl mg) (Fm : Fam F K mg N) (hg : ∀ i, Gl (F i) "len") (h : DE F K e ρ R fun x R1 => ∃ n, x.size R1 = some n ∧ Φ (.int n) R1)
    (hst : ∀ i, starEach [e] (F i).env = [(false, eval e (F i).env)] := by intro _; rfl) : DE F K (.Call (.Name "len" p) [e] [] pos) ρ R Φ :=
  de_blf Fm hg B.len (by decide +kernel) (len_i Fm) (da_cons (h.imp fun x R1 ⟨n, hn, hp⟩ => da_nil (cd_len hn hp)) hst) hst
theorem e_all (B : Bl mg) (Fm : Fam F K mg N) (hg : ∀ i, Gl (F i) "all") (h : DE F K e ρ R fun x R1 => ∃ bs : List Bool, Lst R1 x (bs.map .bl) ∧ Φ (.bl (bs.all id)) R1)
    (hst : ∀ i, starEach [e] (F i).env = [(false, eval e (F i).env)] := by intro _; rfl) : DE F K (.Call (.Name "all" p) [e] [] pos) ρ R Φ :=
  de_blf Fm hg B.all (by decide +kernel) (all_i Fm) (da_cons (h.imp fun x R1 ⟨bs, hn, hp⟩ => da_nil (cd_all hn hp)) hst) hst
theorem e_abs (B : Bl mg) (Fm : Fam F K mg N) (hg : ∀ i, Gl (F i) "abs") (h : DE F K e ρ R fun x R1 => ∃ n : Int, x = .int n ∧ Φ (.int (if n < 0 then -n else n)) R1)
    (hst : ∀ i, starEach [e] (F i).env = [(false, eval e (F i).env)] := by intro _; rfl) : DE F K (.Call (.Name "abs" p) [e] [] pos) ρ R Φ :=
  de_blf Fm hg B.abs (by decide +kernel) (fun i => call_abs) (da_cons (h.imp fun x R1 ⟨n, e, hp⟩ => da_nil (by subst e; exact cd_abs hp)) hst) hst
theorem e_int (B : Bl mg) (Fm : Fam F K mg N) (hg : ∀ i, Gl (F i) "int") (h : DE F K e ρ R fun x R1 => ∃ n : Int, x = .int n ∧ Φ (.int n) R1)
    (hst : ∀ i, starEach [e] (F i).env = [(false, eval e (F i).env)] := by intro _; rfl) : DE F K (.Call (.Name "int" p) [e] [] pos) ρ R Φ :=
  de_blty Fm hg B.int (by decide +kernel) (fun i => call_int1) (da_cons (h.imp fun x R1 ⟨n, e, hp⟩ => da_nil (by subst e; exact cd_int hp)) hst) hst
theorem e_list (B : Bl mg) (Fm : Fam F K mg N) (hg : ∀ i, Gl (F i) "list") (h : DE F K e ρ R fun x R1 => ∃ ds, Seq R1 x ds ∧ Φ (.lst ds) R1)
    (hst : ∀ i, starEach [e] (F i).env = [(false, eval e (F i).env)] := by intro _; rfl) : DE F K (.Call (.Name "list" p) [e] [] pos) ρ R Φ :=
  de_blty Fm hg B.list (by decide +kernel) (listOf_i Fm) (da_cons (h.imp fun x R1 ⟨ds, hn, hp⟩ => da_nil (cd_list hn hp)) hst) hst
theorem e_listO (B : Bl mg) (Fm : Fam F K mg N) (hg : ∀ i, Gl (F i) "list") (h : DE F K e ρ R fun x R1 => ∃ ds, Seq R1 x ds ∧ Φ (.own R1.length) (R1 ++ [.lst ds]))
    (hst : ∀ i, starEach [e] (F i).env = [(false, eval e (F i).env)] := by intro _; rfl) : DE F K (.Call (.Name "list" p) [e] [] pos) ρ R Φ :=
  de_blty Fm hg B.list (by decide +kernel) (listOf_i Fm) (da_cons (h.imp fun x R1 ⟨ds, hn, hp⟩ => da_nil (cd_listO hn hp)) hst) hst
theorem e_tuple (B : Bl mg) (Fm : Fam F K mg N) (hg : ∀ i, Gl (F i) "tuple") (h : DE F K e ρ R fun x R1 => ∃ ds, Seq R1 x ds ∧ Φ (.tup ds) R1)
    (hst : ∀ i, starEach [e] (F i).env = [(false, eval e (F i).env)] := by intro _; rfl) : DE F K (.Call (.Name "tuple" p) [e] [] pos) ρ R Φ :=
  de_blty Fm hg B.tuple (by decide +kernel) (tupOf_i Fm) (da_cons (h.imp fun x R1 ⟨ds, hn, hp⟩ => da_nil (cd_tup hn hp)) hst) hst
/-! isinstance(x, T), T a built-in class by its name -/
theorem e_isi {x1 : Str} {n : String} (B : Bl mg) (Fm : Fam F K mg N) (hg : ∀ i, Gl (F i) "isinstance") (hg2 : ∀ i, Gl (F i) x1) (hm : mg x1 = none) (hv : bootBuiltins x1 = some (.type n)) (h : DE F K e ρ R fun x R1 => Live R1 x ∧ ∃ c, kitB x.tyN n = some c ∧ Φ (.bl c) R1)
    (hst : ∀ i, starEach [e, .Name x1 p2] (F i).env = [(false, eval e (F i).env), (false, eval (.Name x1 p2) (F i).env)] := by intro _; rfl) (hn : x1 ≠ "__name__" := by decide) (hd : (x1 == ("__debug__" : Str)) = false := by decide) :
    DE F K (.Call (.Name "isinstance" p) [e, .Name x1 p2] [] pos) ρ R Φ :=
  de_blf Fm hg B.isinstance (by decide +kernel) (isi_i Fm) (da_cons (h.imp fun x R1 ⟨l, c, hc, hp⟩ => da_cons (de_blt Fm hg2 hm hv (da_nil (cd_isi l hc hp)) hn hd)) hst) hst (fun _ => rfl)
/-! isinstance(x, (T1, T2)), .. of three -/
def D.row (x : D) : Bool := x.tyN == "list" || x.tyN == "tuple"
theorem kit_lt (x : D) (K : PySem.W.Frag) : PySem.W.kitAny K (.type x.tyN) (["list", "tuple"].map .type) = some x.row := by cases x <;> rfl
theorem kit_tl (x : D) (K : PySem.W.Frag) : PySem.W.kitAny K (.type x.tyN) (["tuple", "list"].map .type) = some x.row := by cases x <;> rfl
theorem kit_ltd (x : D) (K : PySem.W.Frag) : PySem.W.kitAny K (.type x.tyN) (["list", "tuple", "dict"].map .type) = some x.row := by cases x <;> rfl
theorem e_isLT {k1 : Nat} {p1 p3 p4 : Pos} (B : Bl mg) (Fm : Fam F K mg N) (hg : ∀ i, Gl (F i) "isinstance") (g1 : ∀ i, Gl (F i) "list") (g2 : ∀ i, Gl (F i) "tuple") (h : DE F K e ρ R fun x R1 => Live R1 x ∧ Φ (.bl x.row) R1) (ht : ∀ i, starEach [.Name "list" p3, .Name "tuple" p4] (F i).env = [(false, eval (.Name "list" p3) (F i).env), (false, eval (.Name "tuple" p4) (F i).env)] := by intro _; rfl)
    (hst : ∀ i, starEach [e, .Tuple [.Name "list" p3, .Name "tuple" p4] k1 p1] (F i).env = [(false, eval e (F i).env), (false, eval (.Tuple [.Name "list" p3, .Name "tuple" p4] k1 p1) (F i).env)] := by intro _; rfl) : DE F K (.Call (.Name "isinstance" p) [e, .Tuple [.Name "list" p3, .Name "tuple" p4] k1 p1] [] pos) ρ R Φ :=
  de_isiT (ns := ["list", "tuple"]) (f := D.row) Fm hg B.isinstance (h.imp fun x R1 ⟨l, hp⟩ => da_cons (de_blt Fm g1 B.list (by decide +kernel) (da_cons (de_blt Fm g2 B.tuple (by decide +kernel) (da_nil ⟨rfl, by decide, l, kit_lt x, hp⟩)))) ht) hst (fun _ => rfl) (fun _ => rfl)
theorem e_isLTD {k1 : Nat} {p1 p3 p4 p5 : Pos} (B : Bl mg) (Fm : Fam F K mg N) (hg : ∀ i, Gl (F i) "isinstance") (g1 : ∀ i, Gl (F i) "list") (g2 : ∀ i, Gl (F i) "tuple") (g3 : ∀ i, Gl (F i) "dict") (h : DE F K e ρ R fun x R1 => Live R1 x ∧ Φ (.bl x.row) R1)
    (hst : ∀ i, starEach [e, .Tuple [.Name "list" p3, .Name "tuple" p4, .Name "dict" p5] k1 p1] (F i).env = [(false, eval e (F i).env), (false, eval (.Tuple [.Name "list" p3, .Name "tuple" p4, .Name "dict" p5] k1 p1) (F i).env)] := by intro _; rfl) : DE F K (.Call (.Name "isinstance" p) [e, .Tuple [.Name "list" p3, .Name "tuple" p4, .Name "dict" p5] k1 p1] [] pos) ρ R Φ :=
  de_isiT (ns := ["list", "tuple", "dict"]) (f := D.row) Fm hg B.isinstance (h.imp fun x R1 ⟨l, hp⟩ => da_cons (de_blt Fm g1 B.list (by decide +kernel) (da_cons (de_blt Fm g2 B.tuple (by decide +kernel) (da_cons (de_blt Fm g3 B.dict (by decide +kernel) (da_nil ⟨rfl, by decide, l, kit_ltd x, hp⟩)))))) (fun _ => rfl)) hst (fun _ => rfl) (fun _ => rfl)
/-! comparisons of ints -/
theorem t_lt (h : DE F K a ρ R fun x R1 => DE F K b ρ R1 fun y R2 => ∃ i j : Int, x = .int i ∧ y = .int j ∧ ΦT (decide (i < j)) R2) (hm : behindInMarks .Lt b = false := by with_unfolding_all rfl) : DT F K (.Compare a [.Lt] [b] pos) ρ R ΦT :=
  dt_cmp (fun _ => op_lt) hm (h.imp fun x R1 h1 => h1.imp fun y R2 ⟨i, j, e1, e2, hp⟩ => by subst e1 e2; exact od_I0 (fun _ _ => .bl _) ⟨_, rfl, hp⟩)
theorem t_gt (h : DE F K a ρ R fun x R1 => DE F K b ρ R1 fun y R2 => ∃ i j : Int, x = .int i ∧ y = .int j ∧ ΦT (decide (j < i)) R2) (hm : behindInMarks .Gt b = false := by with_unfolding_all rfl) : DT F K (.Compare a [.Gt] [b] pos) ρ R ΦT :=
  dt_cmp (fun _ => op_gt) hm (h.imp fun x R1 h1 => h1.imp fun y R2 ⟨i, j, e1, e2, hp⟩ => by subst e1 e2; exact od_I0 (fun _ _ => .bl _) ⟨_, rfl, hp⟩)
theorem e_lt (h : DE F K a ρ R fun x R1 => DE F K b ρ R1 fun y R2 => ∃ i j : Int, x = .int i ∧ y = .int j ∧ Φ (.bl (decide (i < j))) R2) (hm : behindInMarks .Lt b = false := by with_unfolding_all rfl) : DE F K (.Compare a [.Lt] [b] pos) ρ R Φ :=
  de_cmp (fun _ => op_lt) hm (h.imp fun x R1 h1 => h1.imp fun y R2 ⟨i, j, e1, e2, hp⟩ => by subst e1 e2; exact od_I0 (fun _ _ => .bl _) hp)
theorem e_ge (h : DE F K a ρ R fun x R1 => DE F K b ρ R1 fun y R2 => ∃ i j : Int, x = .int i ∧ y = .int j ∧ Φ (.bl (decide (j ≤ i))) R2) (hm : behindInMarks .GtE b = false := by with_unfolding_all rfl) : DE F K (.Compare a [.GtE] [b] pos) ρ R Φ :=
  de_cmp (fun _ => op_ge) hm (h.imp fun x R1 h1 => h1.imp fun y R2 ⟨i, j, e1, e2, hp⟩ => by subst e1 e2; exact od_I0 (fun _ _ => .bl _) hp)
theorem t_ge (h : DE F K a ρ R fun x R1 => DE F K b ρ R1 fun y R2 => ∃ i j : Int, x = .int i ∧ y = .int j ∧ ΦT (decide (j ≤ i)) R2) (hm : behindInMarks .GtE b = false := by with_unfolding_all rfl) : DT F K (.Compare a [.GtE] [b] pos) ρ R ΦT :=
  dt_cmp (fun _ => op_ge) hm (h.imp fun x R1 h1 => h1.imp fun y R2 ⟨i, j, e1, e2, hp⟩ => by subst e1 e2; exact od_I0 (fun _ _ => .bl _) ⟨_, rfl, hp⟩)
/-! ==, !=, in, not in, is None -/
def okSee (n : Nat) (R : Rs) (x : D) : Bool := D.ok n (x.see R)
theorem e_eq (Fm : Fam F K mg N) (h : DE F K a ρ R fun x R1 => DE F K b ρ R1 fun y R2 => ∃ n m, okSee n R2 x = true ∧ okSee m R2 y = true ∧ min n m ≤ 60 ∧ Φ (.bl (PyData.eqv (x.see R2).py (y.see R2).py)) R2) : DE F K (.Compare a [.Eq] [b] pos) ρ R Φ :=
  de_cmp (eqP_i Fm) nb_eq (h.imp fun x R1 h1 => h1.imp fun y R2 ⟨n, m, k1, k2, k3, hp⟩ => od_eq k1 k2 k3 hp)
theorem e_ne (Fm : Fam F K mg N) (h : DE F K a ρ R fun x R1 => DE F K b ρ R1 fun y R2 => ∃ n m, okSee n R2 x = true ∧ okSee m R2 y = true ∧ min n m ≤ 60 ∧ Φ (.bl (!PyData.eqv (x.see R2).py (y.see R2).py)) R2) : DE F K (.Compare a [.NotEq] [b] pos) ρ R Φ :=
  de_cmp (neP_i Fm) nb_ne (h.imp fun x R1 h1 => h1.imp fun y R2 ⟨n, m, k1, k2, k3, hp⟩ => od_eq k1 k2 k3 hp)
theorem t_eq (Fm : Fam F K mg N) (h : DE F K a ρ R fun x R1 => DE F K b ρ R1 fun y R2 => ∃ n m, okSee n R2 x = true ∧ okSee m R2 y = true ∧ min n m ≤ 60 ∧ ΦT (PyData.eqv (x.see R2).py (y.see R2).py) R2) : DT F K (.Compare a [.Eq] [b] pos) ρ R ΦT :=
  dt_cmp (eqP_i Fm) nb_eq (h.imp fun x R1 h1 => h1.imp fun y R2 ⟨n, m, k1, k2, k3, hp⟩ => od_eq k1 k2 k3 ⟨_, rfl, hp⟩)
theorem t_ne (Fm : Fam F K mg N) (h : DE F K a ρ R fun x R1 => DE F K b ρ R1 fun y R2 => ∃ n m, okSee n R2 x = true ∧ okSee m R2 y = true ∧ min n m ≤ 60 ∧ ΦT (!PyData.eqv (x.see R2).py (y.see R2).py) R2) : DT F K (.Compare a [.NotEq] [b] pos) ρ R ΦT :=
  dt_cmp (neP_i Fm) nb_ne (h.imp fun x R1 h1 => h1.imp fun y R2 ⟨n, m, k1, k2, k3, hp⟩ => od_eq k1 k2 k3 ⟨_, rfl, hp⟩)
theorem e_in (Fm : Fam F K mg N) (h : DE F K a ρ R fun x R1 => DE F K b ρ R1 fun y R2 => ∃ n m ds, okSee n R2 x = true ∧ n ≤ 60 ∧ Seq R2 y ds ∧ D.okAll m ds = true ∧ Φ (.bl ((D.pyAll ds).any fun z => PyData.eqv z (x.see R2).py)) R2) (hm : behindInMarks .In b = false := by with_unfolding_all rfl) : DE F K (.Compare a [.In] [b] pos) ρ R Φ :=
  de_cmp (inP_i Fm) hm (h.imp fun x R1 h1 => h1.imp fun y R2 ⟨n, m, ds, k1, k2, k3, k4, hp⟩ => by
    refine od_in k1 k2 ?_ k4 hp
    rcases k3 with (rfl | rfl | ⟨k, rfl, q⟩) | rfl
    · exact .inl rfl
    · exact .inr (.inl rfl)
    · exact .inl (by simp only [D.see, q])
    · exact .inr (.inr rfl))
theorem e_notIn (Fm : Fam F K mg N) (h : DE F K a ρ R fun x R1 => DE F K b ρ R1 fun y R2 => ∃ n m ds, okSee n R2 x = true ∧ n ≤ 60 ∧ Seq R2 y ds ∧ D.okAll m ds = true ∧ Φ (.bl (!(D.pyAll ds).any fun z => PyData.eqv z (x.see R2).py)) R2) (hm : behindInMarks .NotIn b = false := by with_unfolding_all rfl) : DE F K (.Compare a [.NotIn] [b] pos) ρ R Φ :=
  de_cmp (notInP_i Fm) hm (h.imp fun x R1 h1 => h1.imp fun y R2 ⟨n, m, ds, k1, k2, k3, k4, hp⟩ => by
    refine od_in k1 k2 ?_ k4 hp
    rcases k3 with (rfl | rfl | ⟨k, rfl, q⟩) | rfl
    · exact .inl rfl
    · exact .inr (.inl rfl)
    · exact .inl (by simp only [D.see, q])
    · exact .inr (.inr rfl))
theorem t_of (h : DE F K e ρ R fun x R1 => ∃ k, x = .bl k ∧ ΦT k R1) (he : ∀ i whole, isTrue e (F i).env whole = (do let v ← whole; standAt e.pos; holding [v] (truthy v)) := by intro _ _; rfl) : DT F K e ρ R ΦT := dt_val h he
theorem nb_is {b : Expr} : behindInMarks .Is b = false := nobehind b (by decide) (by decide)
theorem nb_isnt {b : Expr} : behindInMarks .IsNot b = false := nobehind b (by decide) (by decide)
theorem e_isNo {j : Nat} (h : DE F K a ρ R fun x R1 => Φ (.bl x.isNon) R1) : DE F K (.Compare a [.Is] [.Constant .none j p] pos) ρ R Φ :=
  de_cmp (fun _ => op_isNo) nb_is (h.imp fun x R1 hp => de_non (od_isNo hp))
theorem t_isNo {j : Nat} (h : DE F K a ρ R fun x R1 => ΦT x.isNon R1) : DT F K (.Compare a [.Is] [.Constant .none j p] pos) ρ R ΦT :=
  dt_cmp (fun _ => op_isNo) nb_is (h.imp fun x R1 hp => de_non (od_isNo ⟨_, rfl, hp⟩))
theorem t_isntNo {j : Nat} (h : DE F K a ρ R fun x R1 => ΦT (!x.isNon) R1) : DT F K (.Compare a [.IsNot] [.Constant .none j p] pos) ρ R ΦT :=
  dt_cmp (fun _ => op_isntNo) nb_isnt (h.imp fun x R1 hp => de_non (od_isNo (f := Bool.not) ⟨_, rfl, hp⟩))
/-! sums, slices, items -/
theorem e_addI (h : DE F K a ρ R fun x R1 => DE F K b ρ R1 fun y R2 => ∃ i j : Int, x = .int i ∧ y = .int j ∧ Φ (.int (i + j)) R2) : DE F K (.BinOp a .Add b pos) ρ R Φ :=
  de_bin (fun _ => op_plus) (h.imp fun x R1 h1 => h1.imp fun y R2 ⟨i, j, e1, e2, hp⟩ => by subst e1 e2; exact od_plusI hp)
theorem e_addL (h : DE F K a ρ R fun x R1 => DE F K b ρ R1 fun y R2 => ∃ xs ys : List D, x = .lst xs ∧ y = .lst ys ∧ xs.length + ys.length ≤ sizeLine ∧ Φ (.lst (xs ++ ys)) R2) : DE F K (.BinOp a .Add b pos) ρ R Φ :=
  de_bin (fun _ => op_plus) (h.imp fun x R1 h1 => h1.imp fun y R2 ⟨i, j, e1, e2, hz, hp⟩ => by subst e1 e2; exact od_plusL hz hp)
theorem e_subI (h : DE F K a ρ R fun x R1 => DE F K b ρ R1 fun y R2 => ∃ i j : Int, x = .int i ∧ y = .int j ∧ Φ (.int (i - j)) R2) : DE F K (.BinOp a .Sub b pos) ρ R Φ :=
  de_bin (fun _ => op_sub) (h.imp fun x R1 h1 => h1.imp fun y R2 ⟨i, j, e1, e2, hp⟩ => by subst e1 e2; exact od_I0 (fun _ _ => .int _) hp)
theorem e_mulI (h : DE F K a ρ R fun x R1 => DE F K b ρ R1 fun y R2 => ∃ i j : Int, x = .int i ∧ y = .int j ∧ CMul i j ∧ Φ (.int (i * j)) R2) : DE F K (.BinOp a .Mult b pos) ρ R Φ :=
  de_bin (fun _ => op_mul) (h.imp fun x R1 h1 => h1.imp fun y R2 ⟨i, j, e1, e2, hc, hp⟩ => by subst e1 e2; exact od_I hc (fun _ _ => .int _) hp)
theorem e_modI (h : DE F K a ρ R fun x R1 => DE F K b ρ R1 fun y R2 => ∃ i j : Int, x = .int i ∧ y = .int j ∧ 0 < j ∧ Φ (.int (i % j)) R2) : DE F K (.BinOp a .Mod b pos) ρ R Φ :=
  de_bin (fun _ => op_mod) (h.imp fun x R1 h1 => h1.imp fun y R2 ⟨i, j, e1, e2, hc, hp⟩ => by subst e1 e2; exact od_I (C := fun _ j => 0 < j) hc (fun _ _ => .int _) hp)
theorem e_divI (h : DE F K a ρ R fun x R1 => DE F K b ρ R1 fun y R2 => ∃ i j : Int, x = .int i ∧ y = .int j ∧ CDiv i j ∧ Φ (.int (i / j)) R2) : DE F K (.BinOp a .FloorDiv b pos) ρ R Φ :=
  de_bin (fun _ => op_fdiv) (h.imp fun x R1 h1 => h1.imp fun y R2 ⟨i, j, e1, e2, hc, hp⟩ => by subst e1 e2; exact od_I hc (fun _ _ => .int _) hp)
theorem e_powI (h : DE F K a ρ R fun x R1 => DE F K b ρ R1 fun y R2 => ∃ i j : Int, x = .int i ∧ y = .int j ∧ CPow i j ∧ Φ (.int (i ^ j.toNat)) R2) : DE F K (.BinOp a .Pow b pos) ρ R Φ :=
  de_bin (fun _ => op_pow) (h.imp fun x R1 h1 => h1.imp fun y R2 ⟨i, j, e1, e2, hc, hp⟩ => by subst e1 e2; exact od_I hc (fun _ _ => .int _) hp)
theorem e_ix (Fm : Fam F K mg N) (h : DE F K a ρ R fun x R1 => DE F K b ρ R1 fun y R2 => ∃ ds i d, Seq R2 x ds ∧ y = .int i ∧ atI ds i = some d ∧ Φ d R2) (hs : PlainIx b := by intro _ _; rfl) : DE F K (.Subscript a b pos) ρ R Φ :=
  de_ix (ixSeq_i Fm) (h.imp fun x R1 h1 => h1.imp fun y R2 ⟨ds, i, d, k1, e, k2, hp⟩ => by subst e; exact od_ix k1 k2 hp) hs
theorem e_slL (Fm : Fam F K mg N) {lo hi : Option Expr} (h : DE F K e ρ R fun x R1 => DO F K lo ρ R1 fun l R2 => DO F K hi ρ R2 fun u R3 => ∃ ds, Lst R3 x ds ∧ Φ (.lst (cutD ds l u)) R3) : DE F K (.Subscript e (.Slice lo hi none p2) pos) ρ R Φ :=
  de_slice (slL_i Fm) (fun H0 ι σ H Q s r f => h H0 ι σ H Q s r fun d R' A B v C hp => f d R' A B v C fun H0 ι σ H Q s r f => hp H0 ι σ H Q s r fun d R' A B C hp => f d R' A B C fun H0 ι σ H Q s r f => hp H0 ι σ H Q s r fun d R' A B C ⟨ds, hl, hp⟩ => f d R' A B C (sd_list hl hp))
end
end DL
namespace DL
open PySem PySem.Spec PyProof.Rows L2
/-! ### data with lists and tuples taken for the same -/
mutual
def D.norm : D → D
  | .tup ds => .tup (D.normAll ds)
  | .lst ds => .tup (D.normAll ds)
  | .rd ds => .tup (D.normAll ds)
  | .non => .non
  | .bl b => .bl b
  | .int i => .int i
  | .str s => .str s
  | .ty n => .ty n
  | .own k => .own k
def D.normAll : List D → List D
  | [] => []
  | d :: ds => D.norm d :: D.normAll ds
end
theorem normAll_map : ∀ ds : List D, D.normAll ds = ds.map D.norm
  | [] => rfl
  | d :: ds => by rw [D.normAll, normAll_map ds]; rfl
theorem norm_tup {x : D} {es : List D} (h : x.norm = .tup es) : ∃ ys, (x = .tup ys ∨ x = .lst ys ∨ x = .rd ys) ∧ ys.map D.norm = es := by
  cases x with
  | tup ys => exact ⟨ys, .inl rfl, by rw [D.norm, normAll_map] at h; injection h⟩
  | lst ys => exact ⟨ys, .inr (.inl rfl), by rw [D.norm, normAll_map] at h; injection h⟩
  | rd ys => exact ⟨ys, .inr (.inr rfl), by rw [D.norm, normAll_map] at h; injection h⟩
  | _ => cases h
theorem norm_str {x : D} {z : Str} (h : x.norm = .str z) : x = .str z := by
  cases x with
  | str y => exact h
  | _ => cases h
theorem norm_int {x : D} {i : Int} (h : x.norm = .int i) : x = .int i := by
  cases x with
  | int y => exact h
  | _ => cases h
theorem seq3 {R : Rs} {x : D} {ys : List D} (h : x = .tup ys ∨ x = .lst ys ∨ x = .rd ys) : Seq R x ys := by
  rcases h with rfl | rfl | rfl
  · exact .inr rfl
  · exact .inl .lst
  · exact .inl (.inr (.inl rfl))
theorem live3 {R : Rs} {x : D} {ys : List D} (h : x = .tup ys ∨ x = .lst ys ∨ x = .rd ys) : Live R x ∧ x.row = true ∧ x.size R = some ys.length := by
  rcases h with rfl | rfl | rfl <;> exact ⟨⟨rfl, fun _ e => (by cases e)⟩, rfl, rfl⟩
theorem live_at {R : Rs} {x : D} (h1 : x.isTy = false) (h2 : ∀ k, x ≠ .own k) : Live R x := ⟨h1, fun k e => absurd e (h2 k)⟩
/-! ### layers -/
def signB (c : Nat) : Bool := decide (97 ≤ c) && decide (c ≤ 122)
def resv : List Str := ["cipher", "seal", "label", "word", "nothing", "takes", "puts", "protocol"]
def agentB (z : Str) : Bool := decide (1 ≤ z.length) && decide (z.length ≤ 8) && z.cps.toList.all signB && !resv.contains z && (Txt.islower z && Txt.isalpha z && Txt.isascii z)
inductive Kd where
  | ci
  | la
  | se
  deriving DecidableEq
inductive Ly where
  | own (k : Kd) (z : Str)
  | word (n : Nat)
  deriving DecidableEq
def kindS (k : Kd) : Str := match k with
  | .ci => "cipher"
  | .la => "label"
  | .se => "seal"
def Ly.k : Ly → Str
  | .own k _ => kindS k
  | .word _ => "word"
def Ly.w : Ly → D
  | .own _ z => .str z
  | .word n => .int n
def Ly.d (l : Ly) : D := .tup [.str l.k, l.w]
def Ly.ok : Ly → Bool
  | .own _ z => agentB z
  | .word n => decide (n < 10)
theorem Ly.norm (l : Ly) : l.d.norm = l.d := by cases l <;> rfl
theorem lys_norm (ls : List Ly) : (ls.map Ly.d).map D.norm = ls.map Ly.d := by
  rw [List.map_map]
  exact List.map_congr_left fun l _ => Ly.norm l
/-- x is a layer, loosely -/
theorem ly_at {x : D} {l : Ly} (h : x.norm = l.d) : ∃ ys, (x = .tup ys ∨ x = .lst ys ∨ x = .rd ys) ∧ ys = [.str l.k, l.w] := by
  obtain ⟨ys, h1, h2⟩ := norm_tup h
  refine ⟨ys, h1, ?_⟩
  match ys, h2 with
  | [], h2 => cases h2
  | [_], h2 => simp at h2
  | [a, b], h2 =>
    simp only [List.map_cons, List.map_nil, List.cons.injEq, and_true] at h2
    obtain ⟨e1, e2⟩ := h2
    rw [norm_str e1]
    cases l with
    | own k z => rw [norm_str (z := z) e2]; rfl
    | word n => rw [norm_int (i := n) e2]; rfl
  | _ :: _ :: _ :: _, h2 => simp at h2
end DL
namespace DL
open PySem PySem.Spec PyProof.Rows L2
/-! ### blocks, tables -/
def blkB (N : List Str) (sc scope : Scope) (own : List (Str × Nat)) : Bool :=
  decide (scope.kind = .function) && (scope.names.all fun y => decide (scope.names.lookup y.1 = some y.2)) && (own.all fun p => decide (N[p.2]? = some p.1)) &&
  (scope.names.all fun y => decide (y.2 ≠ .free) || (decide (sc.names.lookup y.1 = some .cell) || decide (sc.names.lookup y.1 = some .free))) &&
  (scope.names.all fun y => (!(decide (y.2 = .local) || decide (y.2 = .cell))) || ((own.map (·.1)).contains y.1 || !N.contains y.1))
theorem blk_by {N : List Str} {sc scope : Scope} {own : List (Str × Nat)} (h : blkB N sc scope own = true) : BlkOk N sc scope own := by
  simp only [blkB, Bool.and_eq_true, List.all_eq_true, decide_eq_true_eq, Bool.or_eq_true, Bool.not_eq_true', List.contains_iff_mem] at h
  obtain ⟨⟨⟨⟨h1, h2⟩, h3⟩, h4⟩, h5⟩ := h
  refine ⟨h1, h2, h3, fun y hy e => ?_, fun y hy e => ?_⟩
  · rcases h4 y hy with q | q
    · exact absurd e q
    · exact q
  · rcases h5 y hy with q | q
    · rcases e with e | e
      · rw [e] at q; simp at q
      · rw [e] at q; simp at q
    · rcases q with q | q
      · exact .inl q
      · exact .inr (by simpa using q)
theorem tab_rp {K : PySem.W.Frag} {x : Str} {vs : List He.Dv} {ds : List D} (h : He.tupB K x vs = true) (r : ∀ (H : Hp) (ι : List Addr), RpAll K H ι (vs.map (He.Dv.v K)) ds) (H : Hp) (ι : List Addr) : Rp K H ι (.ref (He.ga K x)) (.tup ds) := by
  have q := He.tupB_ok h (fun _ => none)
  rcases q with q | q
  · exact q.elim (fun e => by cases e) fun ⟨_, e⟩ => by cases e
  · exact .tup (.inr q) (r H ι)
end DL
namespace DL
open PySem PySem.Spec PyProof.Rows L2
section
variable {I : Type} {F : I → Cx} {W : World0} {N : List Str} {ρ : Env} {R : Rs} {Φ : Φ1} {e a b : Expr} {pos p apos : Pos} {j : Nat}
/-! methods of lists, by AST -/
theorem e_append (Fm : FamW F W N j) (h : DE F W.K a ρ R fun x R1 => ∃ k ds0, x = .own k ∧ R1[k]? = some (.lst ds0) ∧ DE F W.K e ρ R1 fun y R2 => ∃ ds, R2[k]? = some (.lst ds) ∧ ds.length < sizeLine ∧ Φ .non (R2.set k (.lst (ds ++ [y]))))
    (hbase : ∀ i, attributeBase a "append" (F i).env (eval a (F i).env) = eval a (F i).env := by intro _; rfl)
    (hfew : ∀ i, ((backTo pos (starEach [e] (F i).env)).all (fun x => !x.1) && (backToKw pos (keywordEach [] (F i).env)).all (fun x => x.1.isSome)
      && decide ([e].length + ([] : List Keyword).length + (if ([] : List Keyword).isEmpty then 0 else 1) < 30)) = true := by intro _; rfl)
    (hline : (apos.endLine == pos.line) = true := by rfl) (hst : ∀ i, starEach [e] (F i).env = [(false, eval e (F i).env)] := by intro _; rfl) :
    DE F W.K (.Call (.Attribute a "append" apos) [e] [] pos) ρ R Φ :=
  de_mL Fm PySem.F.slot_list_append PySem.F.type_list_append (fun _ => mt_append) (h.imp fun x R1 ⟨k, ds0, e1, e2, h2⟩ => ⟨k, ds0, e1, e2, da_cons (h2.imp fun y R2 ⟨ds, e3, e4, hp⟩ => da_nil (md_append e3 e4 hp)) hst⟩) hbase hfew hline hst (fun _ => rfl)
theorem e_extend (Fm : FamW F W N j) (h : DE F W.K a ρ R fun x R1 => ∃ k ds0, x = .own k ∧ R1[k]? = some (.lst ds0) ∧ DE F W.K e ρ R1 fun y R2 => ∃ ds es, y = .lst es ∧ R2[k]? = some (.lst ds) ∧ ds.length + es.length ≤ sizeLine ∧ Φ .non (R2.set k (.lst (ds ++ es))))
    (hbase : ∀ i, attributeBase a "extend" (F i).env (eval a (F i).env) = eval a (F i).env := by intro _; rfl)
    (hfew : ∀ i, ((backTo pos (starEach [e] (F i).env)).all (fun x => !x.1) && (backToKw pos (keywordEach [] (F i).env)).all (fun x => x.1.isSome)
      && decide ([e].length + ([] : List Keyword).length + (if ([] : List Keyword).isEmpty then 0 else 1) < 30)) = true := by intro _; rfl)
    (hline : (apos.endLine == pos.line) = true := by rfl) (hst : ∀ i, starEach [e] (F i).env = [(false, eval e (F i).env)] := by intro _; rfl) :
    DE F W.K (.Call (.Attribute a "extend" apos) [e] [] pos) ρ R Φ :=
  de_mL Fm PySem.F.slot_list_extend PySem.F.type_list_extend (fun _ => mt_extend) (h.imp fun x R1 ⟨k, ds0, e1, e2, h2⟩ => ⟨k, ds0, e1, e2, da_cons (h2.imp fun y R2 ⟨ds, es, e0, e3, e4, hp⟩ => da_nil (by subst e0; exact md_extend e3 e4 hp)) hst⟩) hbase hfew hline hst (fun _ => rfl)
theorem e_popAt (Fm : FamW F W N j) (h : DE F W.K a ρ R fun x R1 => ∃ k ds0, x = .own k ∧ R1[k]? = some (.lst ds0) ∧ DE F W.K e ρ R1 fun y R2 => ∃ (q : Nat) (ds : List D) (z : D), y = .int q ∧ R2[k]? = some (.lst ds) ∧ q < 1000000 ∧ ds[q]? = some z ∧ Φ z (R2.set k (.lst (ds.eraseIdx q))))
    (hbase : ∀ i, attributeBase a "pop" (F i).env (eval a (F i).env) = eval a (F i).env := by intro _; rfl)
    (hfew : ∀ i, ((backTo pos (starEach [e] (F i).env)).all (fun x => !x.1) && (backToKw pos (keywordEach [] (F i).env)).all (fun x => x.1.isSome)
      && decide ([e].length + ([] : List Keyword).length + (if ([] : List Keyword).isEmpty then 0 else 1) < 30)) = true := by intro _; rfl)
    (hline : (apos.endLine == pos.line) = true := by rfl) (hst : ∀ i, starEach [e] (F i).env = [(false, eval e (F i).env)] := by intro _; rfl) :
    DE F W.K (.Call (.Attribute a "pop" apos) [e] [] pos) ρ R Φ :=
  de_mL Fm PySem.F.slot_list_pop PySem.F.type_list_pop (fun _ => mt_popAt) (h.imp fun x R1 ⟨k, ds0, e1, e2, h2⟩ => ⟨k, ds0, e1, e2, da_cons (h2.imp fun y R2 ⟨q, ds, z, e0, e3, e4, e5, hp⟩ => da_nil (by
    subst e0
    have hq : q < ds.length := (List.getElem?_eq_some_iff.mp e5).1
    refine md_popAt (q := q) e3 ⟨by omega, by omega⟩ ?_ e5 hp
    have h0 : ¬ ((q : Int) < 0) := by omega
    simp only [seqIndex?, h0, if_false]
    rw [if_pos (by rw [Bool.and_eq_true, decide_eq_true_eq, decide_eq_true_eq]; omega)]
    rfl)) hst⟩) hbase hfew hline hst (fun _ => rfl)
end
section
variable {I : Type} {F : I → Cx} {K : PySem.W.Frag} {mg : Str → Option Value} {N : List Str} {ρ : Env} {R : Rs} {ΦT : Bool → Rs → Prop} {a b : Expr} {pos : Pos}
theorem t_in (Fm : Fam F K mg N) (h : DE F K a ρ R fun x R1 => DE F K b ρ R1 fun y R2 => ∃ n m ds, okSee n R2 x = true ∧ n ≤ 60 ∧ Seq R2 y ds ∧ D.okAll m ds = true ∧ ΦT ((D.pyAll ds).any fun z => PyData.eqv z (x.see R2).py) R2) (hm : behindInMarks .In b = false := by with_unfolding_all rfl) : DT F K (.Compare a [.In] [b] pos) ρ R ΦT :=
  dt_cmp (inP_i Fm) hm (h.imp fun x R1 h1 => h1.imp fun y R2 ⟨n, m, ds, k1, k2, k3, k4, hp⟩ => by
    refine od_in k1 k2 ?_ k4 ⟨_, rfl, hp⟩
    rcases k3 with (rfl | rfl | ⟨k, rfl, q⟩) | rfl
    · exact .inl rfl
    · exact .inr (.inl rfl)
    · exact .inl (by simp only [D.see, q])
    · exact .inr (.inr rfl))
theorem t_notIn (Fm : Fam F K mg N) (h : DE F K a ρ R fun x R1 => DE F K b ρ R1 fun y R2 => ∃ n m ds, okSee n R2 x = true ∧ n ≤ 60 ∧ Seq R2 y ds ∧ D.okAll m ds = true ∧ ΦT (!(D.pyAll ds).any fun z => PyData.eqv z (x.see R2).py) R2) (hm : behindInMarks .NotIn b = false := by with_unfolding_all rfl) : DT F K (.Compare a [.NotIn] [b] pos) ρ R ΦT :=
  dt_cmp (notInP_i Fm) hm (h.imp fun x R1 h1 => h1.imp fun y R2 ⟨n, m, ds, k1, k2, k3, k4, hp⟩ => by
    refine od_in k1 k2 ?_ k4 ⟨_, rfl, hp⟩
    rcases k3 with (rfl | rfl | ⟨k, rfl, q⟩) | rfl
    · exact .inl rfl
    · exact .inr (.inl rfl)
    · exact .inl (by simp only [D.see, q])
    · exact .inr (.inr rfl))
end
/-- while, with one word for its end -/
theorem ds_while2 {I : Type} {F : I → Cx} {K : PySem.W.Frag} {mg : Str → Option Value} {N : List Str} {ρ : Env} {R : Rs} {E : DEnds} {pos : Pos} {c : Expr} {body : List Stmt} (Fm : Fam F K mg N) (J : Nat → Env → Rs → Prop) (G : Env → Rs → Prop) (m0 : Nat) (h0 : J m0 ρ R) (hx : ∀ ρ' R', G ρ' R' → E.nx ρ' R')
    (h : ∀ m ρ' R', J m ρ' R' → DT F K c ρ' R' fun k R2 => (k = true → DSs F K body ρ' R2 { nx := fun ρ3 R3 => ∃ m', m' < m ∧ J m' ρ3 R3, ct := fun ρ3 R3 => ∃ m', m' < m ∧ J m' ρ3 R3, bk := E.nx, rt := E.rt }) ∧ (k = false → G ρ' R2)) : DS F K (.While c body [] pos) ρ R E :=
  ds_while Fm J m0 h0 fun m ρ' R' hJ H0 ι σ H Q s r f => h m ρ' R' hJ H0 ι σ H Q s r fun b R2 A B C hb => f b R2 A B C ⟨hb.1, fun e => hx _ _ (hb.2 e)⟩
theorem ints_ok (n : Nat) : ∀ ns : List Int, D.okAll n (ns.map .int) = true
  | [] => rfl
  | _ :: ns => by
    rw [List.map_cons, D.okAll, ints_ok n ns]
    cases n <;> rfl
/-! ### the stream of a law: the numbers that are left, and the list around them -/
def strm (ns : List Int) (a : Int) (c : Nat) (e : Int) : Rs := [.lst (ns.map .int), .lst [.own 0, .int a, .int (c : Int), .int e]]
def St (R : Rs) (c : Nat) (T : Rs) : Prop := ∃ ns a e, R = strm ns a c e ++ T ∧ ns.length ≤ 63 ∧ 0 ≤ a ∧ 0 ≤ e ∧ e < 2147483647
theorem St.uniq {R : Rs} {c c' : Nat} {T T' : Rs} (h : St R c T) (h' : St R c' T') : c = c' ∧ T = T' := by
  obtain ⟨ns, a, e, rfl, _⟩ := h
  obtain ⟨ns', a', e', q, _⟩ := h'
  simp only [strm, List.cons_append, List.nil_append, List.cons.injEq] at q
  obtain ⟨_, q2, q3⟩ := q
  have : (.lst [.own 0, .int a, .int (c : Int), .int e] : Res) = .lst [.own 0, .int a', .int (c' : Int), .int e'] := q2
  injection this with z
  simp only [List.cons.injEq, D.int.injEq] at z
  exact ⟨by omega, q3⟩
theorem St.len {R : Rs} {c : Nat} {T : Rs} (h : St R c T) : R.length = T.length + 2 := by
  obtain ⟨ns, a, e, rfl, _⟩ := h
  simp [strm]
theorem ints_lt (n : Nat) : ∀ ns : List Int, D.ltAll n (ns.map .int) = true
  | [] => rfl
  | _ :: ns => by
    show (true && D.ltAll n (ns.map .int)) = true
    rw [ints_lt n ns]
    rfl
theorem strm_lt {n : Nat} (hn : 2 ≤ n) (ns : List Int) (a : Int) (c : Nat) (e : Int) {T : Rs} (h : RsLt n T) : RsLt n (strm ns a c e ++ T) := by
  intro r hr
  rcases List.mem_append.mp hr with hr | hr
  · simp only [strm, List.mem_cons, List.not_mem_nil, or_false] at hr
    rcases hr with rfl | rfl
    · exact ints_lt n ns
    · show (decide (0 < n) && (true && (true && (true && true)))) = true
      rw [decide_eq_true (by omega)]
      rfl
  · exact h r hr
theorem St.tail {R : Rs} {c n : Nat} {T : Rs} (h : St R c T) (lt : RsLt n R) : RsLt n T := by
  obtain ⟨ns, a, e, rfl, _⟩ := h
  exact fun r hr => lt r (List.mem_append_right _ hr)
theorem St.at {R : Rs} {c : Nat} {S T : Rs} (h : St R c (S ++ T)) (i : Nat) : R[S.length + 2 + i]? = T[i]? := by
  obtain ⟨ns, a, e, rfl, _⟩ := h
  rw [List.getElem?_append_right (by simp [strm]; omega)]
  rw [List.getElem?_append_right (by simp [strm]; omega)]
  congr 1
  simp only [strm, List.length_cons, List.length_nil]
  omega
theorem St.put {R : Rs} {c : Nat} {S T : Rs} (h : St R c (S ++ T)) (i : Nat) (r : Res) : St (R.set (S.length + 2 + i) r) c (S ++ T.set i r) := by
  obtain ⟨ns, a, e, rfl, q⟩ := h
  refine ⟨ns, a, e, ?_, q⟩
  rw [List.set_append_right _ _ (by simp [strm]; omega), List.set_append_right _ _ (by simp [strm]; omega)]
  congr 3
  simp only [strm, List.length_cons, List.length_nil]
  omega
theorem Seq.uniq {R : Rs} {x : D} {xs ys : List D} (h : Seq R x xs) (h' : Seq R x ys) : xs = ys := by
  rcases h with (rfl | rfl | ⟨k, rfl, q⟩) | rfl
  · rcases h' with (e | e | ⟨k, e, _⟩) | e <;> cases e <;> rfl
  · rcases h' with (e | e | ⟨k, e, _⟩) | e <;> cases e <;> rfl
  · rcases h' with (e | e | ⟨k', e, q'⟩) | e
    · cases e
    · cases e
    · cases e; rw [q] at q'; cases q'; rfl
    · cases e
  · rcases h' with (e | e | ⟨k, e, _⟩) | e <;> cases e <;> rfl
theorem Lst.uniq {R : Rs} {x : D} {xs ys : List D} (h : Lst R x xs) (h' : Lst R x ys) : xs = ys := Seq.uniq (.inl h) (.inl h')
theorem Lst.app {R T : Rs} {x : D} {xs : List D} (h : Lst R x xs) : Lst (R ++ T) x xs := by
  rcases h with rfl | rfl | ⟨k, rfl, q⟩
  · exact .inl rfl
  · exact .inr (.inl rfl)
  · refine .own ?_
    rw [List.getElem?_append_left (List.getElem?_eq_some_iff.mp q).1]
    exact q
theorem Seq.app {R T : Rs} {x : D} {xs : List D} (h : Seq R x xs) : Seq (R ++ T) x xs := h.elim (fun h => .inl h.app) .inr
theorem snd_at {R : Rs} {r : Res} : (R ++ [r])[R.length]? = some r := by simp
theorem snd_set {R : Rs} {r r' : Res} : (R ++ [r]).set R.length r' = R ++ [r'] := by simp
/-- a def's end with one place of its own, that is let go or given up -/
theorem ret_same {R T : Rs} {B : D → Rs → Prop} {d : D} (hR : RsLt R.length R) (hd : D.lt R.length d = true) (h : B d R) : RetOk R.length B d (R ++ T) := .cut R T rfl rfl hR hd h
/-- the things of a list, each once, as they come first -/
def onceD : List D → List D → List D
  | acc, [] => acc
  | acc, x :: xs => if (D.pyAll acc).any fun z => PyData.eqv z x.py then onceD acc xs else onceD (acc ++ [x]) xs
theorem St.more {R : Rs} {c : Nat} {S : Rs} (h : St R c S) (r : Res) : St (R ++ [r]) c (S ++ [r]) := by
  obtain ⟨ns, a, e, rfl, q⟩ := h
  exact ⟨ns, a, e, by rw [List.append_assoc], q⟩
theorem lt_mem {n : Nat} : ∀ {ds : List D} {d : D}, D.ltAll n ds = true → d ∈ ds → D.lt n d = true
  | x :: ds, d, h, m => by
    obtain ⟨h1, h2⟩ := Bool.and_eq_true_iff.mp (show (D.lt n x && D.ltAll n ds) = true from h)
    rcases List.mem_cons.mp m with rfl | m
    · exact h1
    · exact lt_mem h2 m
theorem lt_all {n : Nat} : ∀ {ds : List D}, (∀ d ∈ ds, D.lt n d = true) → D.ltAll n ds = true
  | [], _ => rfl
  | x :: ds, h => by
    show (D.lt n x && D.ltAll n ds) = true
    rw [h x (List.mem_cons_self ..), lt_all fun d m => h d (List.mem_cons_of_mem _ m)]
    rfl
abbrev Is3 (x : D) (xs : List D) : Prop := x = .tup xs ∨ x = .lst xs ∨ x = .rd xs
theorem Is3.lt {n : Nat} {x : D} {xs : List D} (h : Is3 x xs) : D.lt n x = D.ltAll n xs := by
  rcases h with rfl | rfl | rfl <;> rfl
/-- the stream's end of a def: what stood ahead stands, new places are let go -/
theorem St.ret {R R' : Rs} {c c' : Nat} {S T : Rs} {B : D → Rs → Prop} {d : D} (h : St R c S) (hR : RsLt R.length R) (h' : St R' c' (S ++ T)) (hd : D.lt R.length d = true) (hB : ∀ R2, St R2 c' S → B d R2) : RetOk R.length B d R' := by
  have hl := h.len
  obtain ⟨ns, a, e, rfl, q⟩ := h'
  refine .cut (strm ns a c' e ++ S) T (by rw [List.append_assoc]) ?_ (strm_lt (by omega) ns a c' e (h.tail hR)) hd (hB _ ⟨ns, a, e, rfl, q⟩)
  rw [hl]
  simp [strm]
end DL
namespace DL
open PySem PySem.Spec PyProof.Rows L2
mutual
/-- how many things -/
def D.sz : D → Nat
  | .tup ds => 1 + D.szAll ds
  | .lst ds => 1 + D.szAll ds
  | .rd ds => 1 + D.szAll ds
  | .non => 1
  | .bl _ => 1
  | .int _ => 1
  | .str _ => 1
  | .ty _ => 1
  | .own _ => 1
def D.szAll : List D → Nat
  | [] => 0
  | d :: ds => D.sz d + D.szAll ds
end
mutual
/-- how many lists and tuples -/
def D.dr : D → Nat
  | .tup ds => D.drAll ds + 1
  | .lst ds => D.drAll ds + 1
  | .rd ds => D.drAll ds + 1
  | .non => 0
  | .bl _ => 0
  | .int _ => 0
  | .str _ => 0
  | .ty _ => 0
  | .own _ => 0
def D.drAll : List D → Nat
  | [] => 0
  | d :: ds => D.dr d + D.drAll ds
end
mutual
theorem D.dr_le : ∀ d : D, d.dr ≤ d.sz
  | .tup ds => by have := D.drAll_le ds; simp only [D.dr, D.sz]; omega
  | .lst ds => by have := D.drAll_le ds; simp only [D.dr, D.sz]; omega
  | .rd ds => by have := D.drAll_le ds; simp only [D.dr, D.sz]; omega
  | .non => Nat.zero_le _
  | .bl _ => Nat.zero_le _
  | .int _ => Nat.zero_le _
  | .str _ => Nat.zero_le _
  | .ty _ => Nat.zero_le _
  | .own _ => Nat.zero_le _
theorem D.drAll_le : ∀ ds : List D, D.drAll ds ≤ D.szAll ds
  | [] => Nat.le_refl _
  | d :: ds => by
    have h1 := D.dr_le d
    have h2 := D.drAll_le ds
    simp only [D.drAll, D.szAll]
    omega
end
theorem drAll_app : ∀ xs ys : List D, D.drAll (xs ++ ys) = D.drAll xs + D.drAll ys
  | [], ys => by simp [D.drAll]
  | x :: xs, ys => by
    rw [List.cons_append, D.drAll, D.drAll, drAll_app xs ys]
    omega
theorem szAll_len : ∀ xs : List D, xs.length ≤ D.szAll xs
  | [] => Nat.le_refl _
  | x :: xs => by
    have h := szAll_len xs
    have h2 : 1 ≤ x.sz := by cases x <;> simp only [D.sz] <;> omega
    simp only [List.length_cons, D.szAll]
    omega
theorem szAll_mem : ∀ {xs : List D} {d : D}, d ∈ xs → d.sz ≤ D.szAll xs
  | x :: xs, d, m => by
    simp only [D.szAll]
    rcases List.mem_cons.mp m with rfl | m
    · omega
    · have := szAll_mem m
      omega
theorem drAll_take : ∀ (xs : List D) (i : Nat), D.drAll (xs.take i) ≤ D.drAll xs
  | [], i => by simp
  | x :: xs, 0 => by simp [D.drAll]
  | x :: xs, i + 1 => by
    have := drAll_take xs i
    simp only [List.take_succ_cons, D.drAll]
    omega
theorem drsz_take : ∀ {xs : List D} {i : Nat} {y : D}, xs[i]? = some y → D.drAll (xs.take i) + y.sz ≤ D.szAll xs
  | x :: xs, 0, y, h => by
    simp only [List.getElem?_cons_zero, Option.some.injEq] at h
    subst h
    simp [D.drAll, D.szAll]
  | x :: xs, i + 1, y, h => by
    have := drsz_take (xs := xs) (i := i) (y := y) (by simpa using h)
    have h2 := D.dr_le x
    simp only [List.take_succ_cons, D.drAll, D.szAll]
    omega
theorem Is3.parts {n : Nat} {x : D} {xs : List D} (h : Is3 x xs) : x.sz = 1 + D.szAll xs ∧ x.dr = D.drAll xs + 1 ∧ D.ok (n + 1) x = D.okAll n xs ∧ x.norm = .tup (xs.map D.norm) ∧ D.ok 0 x = false := by
  rcases h with rfl | rfl | rfl <;> exact ⟨rfl, rfl, rfl, by rw [D.norm, normAll_map], rfl⟩
mutual
theorem ok_lt {k : Nat} : ∀ (n : Nat) (d : D), D.ok n d = true → D.lt k d = true
  | _, .non, _ => rfl
  | _, .bl _, _ => rfl
  | _, .int _, _ => rfl
  | _, .str _, _ => rfl
  | 0, .tup _, h => by cases h
  | n + 1, .tup ds, h => okAll_lt n ds h
  | 0, .lst _, h => by cases h
  | n + 1, .lst ds, h => okAll_lt n ds h
  | 0, .rd _, h => by cases h
  | n + 1, .rd ds, h => okAll_lt n ds h
  | 0, .ty _, h => by cases h
  | _ + 1, .ty _, h => by cases h
  | 0, .own _, h => by cases h
  | _ + 1, .own _, h => by cases h
theorem okAll_lt {k : Nat} : ∀ (n : Nat) (ds : List D), D.okAll n ds = true → D.ltAll k ds = true
  | _, [], _ => rfl
  | n, d :: ds, h => by
    obtain ⟨h1, h2⟩ := Bool.and_eq_true_iff.mp (show (D.ok n d && D.okAll n ds) = true from by cases n <;> exact h)
    show (D.lt k d && D.ltAll k ds) = true
    rw [ok_lt n d h1, okAll_lt n ds h2]
    rfl
end
theorem okAll_at {n : Nat} : ∀ {ds : List D}, D.okAll n ds = true → ∀ d ∈ ds, D.ok n d = true
  | x :: ds, h, d, m => by
    obtain ⟨h1, h2⟩ := Bool.and_eq_true_iff.mp (show (D.ok n x && D.okAll n ds) = true from by cases n <;> exact h)
    rcases List.mem_cons.mp m with rfl | m
    · exact h1
    · exact okAll_at h2 d m
theorem okAll_of {n : Nat} : ∀ {ds : List D}, (∀ d ∈ ds, D.ok n d = true) → D.okAll n ds = true
  | [], _ => by cases n <;> rfl
  | x :: ds, h => by
    have : (D.ok n x && D.okAll n ds) = true := by rw [h x (List.mem_cons_self ..), okAll_of fun d m => h d (List.mem_cons_of_mem _ m)]; rfl
    cases n <;> exact this
theorem see_ok {n : Nat} {d : D} (R : Rs) (h : D.ok n d = true) : d.see R = d := by
  cases d with
  | own k => cases n <;> cases h
  | _ => rfl
theorem ok_live {n : Nat} {d : D} {R : Rs} (h : D.ok n d = true) : Live R d := by
  cases d with
  | own k => cases n <;> cases h
  | ty k => cases n <;> cases h
  | _ => exact ⟨rfl, fun _ e => by cases e⟩
theorem ok_row {n : Nat} {d : D} (h : D.ok n d = true) : (∃ ds, Is3 d ds) ∨ (d.row = false ∧ d.norm = d ∧ d.dr = 0) := by
  cases d with
  | own k => cases n <;> cases h
  | tup ds => exact .inl ⟨ds, .inl rfl⟩
  | lst ds => exact .inl ⟨ds, .inr (.inl rfl)⟩
  | rd ds => exact .inl ⟨ds, .inr (.inr rfl)⟩
  | _ => exact .inr ⟨rfl, rfl, rfl⟩
section
variable {I : Type} {F : I → Cx} {K : PySem.W.Frag} {mg : Str → Option Value} {N : List Str} {ρ : Env} {R : Rs} {tg iter : Expr} {Ψ : List D → (Rs → Prop) → Rs → Prop}
theorem itok_weak {J : It} {ds : List D} {v v' : Rs → Prop} {H0 : Hp} {ι : List Addr} (h : ItOk K J ds v H0 ι) (w : ∀ R, v' R → v R) : ItOk K J ds v' H0 ι := fun H0' ι' R' H' a b c d => h H0' ι' R' H' a b c (w R' d)
/-- a list that stays, or a tuple, of which it is known which -/
theorem di_3 {x : D} {ds : List D} (Fm : Fam F K mg N) (hx : Is3 x ds) (h : DE F K iter ρ R fun y R1 => y = x ∧ Ψ ds (fun _ => True) R1) : DI F K tg iter ρ R Ψ := by
  rcases hx with rfl | rfl | rfl
  · exact di_tup Fm (h.imp fun y R1 ⟨e, hp⟩ => ⟨ds, e, hp⟩)
  · exact fun H0 ι σ H Q s r f => ⟨iList K (UE F iter), fun i => Fm.K i ▸ pi_list (pe_u i), h H0 ι σ H _ s r fun d R1 A B v C hp s1 S1 r1 => by
      obtain ⟨rfl, hp⟩ := hp
      obtain ⟨a, xs, rfl, hs, ra⟩ := (Lst.lst (R := R1) (ds := ds)).at_ S1 r1
      exact ⟨a, rfl, ⟨xs, hs⟩, f _ ds _ R1 A B C hp s1 S1 (itok_weak (it_list r1) fun _ _ => .lst)⟩⟩
  · exact fun H0 ι σ H Q s r f => ⟨iList K (UE F iter), fun i => Fm.K i ▸ pi_list (pe_u i), h H0 ι σ H _ s r fun d R1 A B v C hp s1 S1 r1 => by
      obtain ⟨rfl, hp⟩ := hp
      have l : ∀ R, Lst R (.rd ds) ds := fun R => .inr (.inl rfl)
      obtain ⟨a, xs, rfl, hs, ra⟩ := (l R1).at_ S1 r1
      exact ⟨a, rfl, ⟨xs, hs⟩, f _ ds _ R1 A B C hp s1 S1 (itok_weak (it_list r1) fun _ _ => l _)⟩⟩
end
end DL
namespace DL
open PySem PySem.Spec PyProof.Rows L2
mutual
/-- a list that stays is a list -/
def D.kn : D → D
  | .tup ds => .tup (D.knAll ds)
  | .lst ds => .lst (D.knAll ds)
  | .rd ds => .lst (D.knAll ds)
  | .non => .non
  | .bl b => .bl b
  | .int i => .int i
  | .str s => .str s
  | .ty n => .ty n
  | .own k => .own k
def D.knAll : List D → List D
  | [] => []
  | d :: ds => D.kn d :: D.knAll ds
end
theorem knAll_map : ∀ ds : List D, D.knAll ds = ds.map D.kn
  | [] => rfl
  | d :: ds => by rw [D.knAll, knAll_map ds]; rfl
mutual
theorem kn_py : ∀ d : D, d.kn.py = d.py
  | .tup ds => by simp only [D.kn, D.py]; rw [knAll_py ds]
  | .lst ds => by simp only [D.kn, D.py]; rw [knAll_py ds]
  | .rd ds => by simp only [D.kn, D.py]; rw [knAll_py ds]
  | .non => rfl
  | .bl _ => rfl
  | .int _ => rfl
  | .str _ => rfl
  | .ty _ => rfl
  | .own _ => rfl
theorem knAll_py : ∀ ds : List D, D.pyAll (D.knAll ds) = D.pyAll ds
  | [] => rfl
  | d :: ds => by simp only [D.knAll, D.pyAll]; rw [kn_py d, knAll_py ds]
end
/-- what two things of one kind are -/
theorem kn_cases {x y : D} {n : Nat} (hx : D.ok n x = true) (hy : D.ok n y = true) (h : x.kn = y.kn) :
    (∃ xs ys, (x = .lst xs ∨ x = .rd xs) ∧ (y = .lst ys ∨ y = .rd ys) ∧ xs.map D.kn = ys.map D.kn) ∨ (∃ xs ys, x = .tup xs ∧ y = .tup ys ∧ xs.map D.kn = ys.map D.kn) ∨ (x = y ∧ x.row = false) := by
  have l : ∀ {as bs : List D}, D.lst (D.knAll as) = .lst (D.knAll bs) → as.map D.kn = bs.map D.kn := fun e => by
    injection e with e
    rwa [knAll_map, knAll_map] at e
  cases x <;> cases y <;> first
    | (exact .inl ⟨_, _, .inl rfl, .inl rfl, l h⟩)
    | (exact .inl ⟨_, _, .inl rfl, .inr rfl, l h⟩)
    | (exact .inl ⟨_, _, .inr rfl, .inl rfl, l h⟩)
    | (exact .inl ⟨_, _, .inr rfl, .inr rfl, l h⟩)
    | (exact .inr (.inl ⟨_, _, rfl, rfl, by injection h with e; rwa [knAll_map, knAll_map] at e⟩))
    | (exact .inr (.inr ⟨h, rfl⟩))
    | (cases h; done)
    | (cases n <;> cases hx; done)
    | (cases n <;> cases hy; done)
theorem see_lst {R : Rs} {x : D} {xs : List D} (h : x.see R = .lst xs ∨ x.see R = .rd xs) (hg : ∀ k, x = .own k → ∃ ds, R[k]? = some (.lst ds)) : Lst R x xs ∧ x.tyN = "list" ∧ Live R x ∧ x.size R = some xs.length := by
  cases x with
  | own k =>
    obtain ⟨ds, e⟩ := hg k rfl
    simp only [D.see, e] at h
    have : ds = xs := by rcases h with h | h <;> cases h; rfl
    subst this
    exact ⟨.own e, rfl, ⟨rfl, fun j ej => by cases ej; exact ⟨_, e⟩⟩, by simp only [D.size, e]⟩
  | lst ds => rcases h with h | h <;> cases h; exact ⟨.lst, rfl, ⟨rfl, nofun⟩, rfl⟩
  | rd ds => rcases h with h | h <;> cases h; exact ⟨.inr (.inl rfl), rfl, ⟨rfl, nofun⟩, rfl⟩
  | _ => rcases h with h | h <;> cases h
theorem see_tup {R : Rs} {x : D} {xs : List D} (h : x.see R = .tup xs) : x = .tup xs := by
  cases x with
  | own k =>
    simp only [D.see] at h
    split at h <;> cases h
  | _ => exact h
theorem see_leaf {R : Rs} {x : D} {n : Nat} (h : (x.see R).row = false) (ho : D.ok n (x.see R) = true) : x.see R = x ∧ D.ok n x = true := by
  cases x with
  | own k =>
    have : (D.own k).see R = .own k ∨ ∃ ds, (D.own k).see R = .lst ds := by
      simp only [D.see]
      split
      · exact .inr ⟨_, rfl⟩
      · exact .inl rfl
    rcases this with e | ⟨ds, e⟩
    · rw [e] at h; cases h
    · rw [e] at h; cases h
  | _ => exact ⟨rfl, ho⟩
theorem kit_d (x : D) (h : x.isTy = false) (T : String) (hT : T = "list" ∨ T = "tuple" ∨ T = "dict" ∨ T = "bool" ∨ T = "int" ∨ T = "str") : ∃ c, kitB x.tyN T = some c := by
  cases x <;> first | (rcases hT with rfl | rfl | rfl | rfl | rfl | rfl <;> exact ⟨_, rfl⟩) | cases h
end DL
namespace DL
open PySem PySem.Spec PyProof.Rows L2
mutual
/-- no list within -/
def D.tt : Nat → D → Bool
  | _, .non => true
  | _, .bl _ => true
  | _, .int _ => true
  | _, .str _ => true
  | _, .ty _ => false
  | 0, .tup _ => false
  | n + 1, .tup ds => D.ttAll n ds
  | _, .lst _ => false
  | _, .rd _ => false
  | _, .own _ => false
def D.ttAll : Nat → List D → Bool
  | _, [] => true
  | n, d :: ds => D.tt n d && D.ttAll n ds
end
mutual
theorem tt_ok : ∀ (n : Nat) (d : D), D.tt n d = true → D.ok n d = true
  | n, .non, _ => by cases n <;> rfl
  | n, .bl _, _ => by cases n <;> rfl
  | n, .int _, _ => by cases n <;> rfl
  | n, .str _, _ => by cases n <;> rfl
  | n, .ty _, h => by cases n <;> cases h
  | 0, .tup _, h => by cases h
  | n + 1, .tup ds, h => ttAll_ok n ds h
  | n, .lst _, h => by cases n <;> cases h
  | n, .rd _, h => by cases n <;> cases h
  | n, .own _, h => by cases n <;> cases h
theorem ttAll_ok : ∀ (n : Nat) (ds : List D), D.ttAll n ds = true → D.okAll n ds = true
  | n, [], _ => by cases n <;> rfl
  | n, d :: ds, h => by
    obtain ⟨h1, h2⟩ := Bool.and_eq_true_iff.mp (show (D.tt n d && D.ttAll n ds) = true from by cases n <;> exact h)
    have : (D.ok n d && D.okAll n ds) = true := by rw [tt_ok n d h1, ttAll_ok n ds h2]; rfl
    cases n <;> exact this
end
theorem ttAll_at {n : Nat} : ∀ {ds : List D}, D.ttAll n ds = true → ∀ d ∈ ds, D.tt n d = true
  | x :: ds, h, d, m => by
    obtain ⟨h1, h2⟩ := Bool.and_eq_true_iff.mp (show (D.tt n x && D.ttAll n ds) = true from by cases n <;> exact h)
    rcases List.mem_cons.mp m with rfl | m
    · exact h1
    · exact ttAll_at h2 d m
theorem tt_cases {n : Nat} {x : D} (h : D.tt n x = true) : (∃ m xs, n = m + 1 ∧ x = .tup xs ∧ D.ttAll m xs = true) ∨ (x.row = false ∧ D.ok 0 x = true) := by
  cases x with
  | tup xs => cases n with
    | zero => cases h
    | succ m => exact .inl ⟨m, xs, rfl, rfl, h⟩
  | non => exact .inr ⟨rfl, rfl⟩
  | bl b => exact .inr ⟨rfl, rfl⟩
  | int i => exact .inr ⟨rfl, rfl⟩
  | str z => exact .inr ⟨rfl, rfl⟩
  | _ => cases n <;> cases h
theorem set_lt {n k : Nat} {R : Rs} {ds : List D} (h : RsLt n R) (hd : D.ltAll n ds = true) : RsLt n (R.set k (.lst ds)) := by
  intro r hr
  rcases List.mem_or_eq_of_mem_set hr with hr | rfl
  · exact h r hr
  · exact hd
end DL
namespace DL
open PySem PySem.Spec PyProof.Rows L2
section
variable {I : Type} {F : I → Cx} {K : PySem.W.Frag} {mg : Str → Option Value} {N : List Str} {ρ : Env} {R : Rs} {Ψ : Env → Rs → Prop} {p : Pos} {vs : List Nat}
/-- a, b, .. = a list or a tuple that stays -/
theorem dg_tup3 {tgs : List Expr} {ds : List DL.D} {x : DL.D} {k : Nat} (Fm : Fam F K mg N) (hx : Is3 x ds) (hl : ds.length = tgs.length) (h : DGs F K tgs ds ρ R Ψ)
    (hn : ∀ i, (assignEach tgs (F i).env).length = tgs.length := by intro _; rfl) (hst : ∀ i, (assignEach tgs (F i).env).findIdx? (·.1) = none := by intro _; rfl) : DG F K (.Tuple tgs k p) x ρ R Ψ := by
  rcases hx with rfl | rfl | rfl
  · exact dg_tup Fm (.inl rfl) hl h hn hst
  · exact dg_tup Fm (.inr rfl) hl h hn hst
  · refine DG.of (t := fun v σ H Q => gUnl K tgs.length (UGs F tgs) v σ H Q) (fun i => Fm.K i ▸ pg_unl (Fm.calm i) (pgs_u i) (hn i) (hst i)) fun H0 ι σ H v Q s r rv f => ?_
    cases rv with
    | rd ha ra => exact ⟨_, _, rfl, s.ex.seq ha, by rw [ra.length]; exact hl, h H0 ι σ H _ Q s r ra f⟩
theorem dgw_tup3 {tgs : List Expr} {ds : List DL.D} {x : DL.D} {k : Nat} (Fm : Fam F K mg N) (hx : Is3 x ds) (hl : ds.length = tgs.length) (h : DGsw F K vs tgs ds ρ R Ψ)
    (hn : ∀ i, (assignEach tgs (F i).env).length = tgs.length := by intro _; rfl) (hst : ∀ i, (assignEach tgs (F i).env).findIdx? (·.1) = none := by intro _; rfl) : DGw F K vs (.Tuple tgs k p) x ρ R Ψ := by
  rcases hx with rfl | rfl | rfl
  · exact dgw_tup Fm (.inl rfl) hl h hn hst
  · exact dgw_tup Fm (.inr rfl) hl h hn hst
  · intro H0 ι σ H v Q s r rv f
    refine ⟨fun v σ H Q => gUnl K tgs.length (UGs F tgs) v σ H Q, fun i => Fm.K i ▸ pg_unl (Fm.calm i) (pgs_u i) (hn i) (hst i), ?_⟩
    cases rv with
    | rd ha ra => exact ⟨_, _, rfl, s.ex.seq ha, by rw [ra.length]; exact hl, h H0 ι σ H _ Q s r ra f⟩
end
theorem ly_inj {l m : Ly} (h : l.d = m.d) : l = m := by
  cases l with
  | own k z =>
    cases m with
    | own k' z' =>
      simp only [Ly.d, Ly.k, Ly.w, D.tup.injEq, List.cons.injEq, D.str.injEq, and_true] at h
      obtain ⟨h1, rfl⟩ := h
      have : k = k' := by
        cases k <;> cases k' <;> first | rfl | (exact absurd h1 (by decide))
      rw [this]
    | word n =>
      simp only [Ly.d, Ly.w, D.tup.injEq, List.cons.injEq, and_true] at h
      cases h.2
  | word n =>
    cases m with
    | own k' z' =>
      simp only [Ly.d, Ly.w, D.tup.injEq, List.cons.injEq, and_true] at h
      cases h.2
    | word m =>
      simp only [Ly.d, Ly.w, D.tup.injEq, List.cons.injEq, D.int.injEq, and_true] at h
      have : n = m := by omega
      rw [this]
theorem ly_tt (l : Ly) : D.tt 1 l.d = true := by cases l <;> rfl
theorem lys_tt (ls : List Ly) : D.ttAll 1 (ls.map Ly.d) = true := by
  induction ls with
  | nil => rfl
  | cons l ls ih =>
    show (D.tt 1 l.d && D.ttAll 1 (ls.map Ly.d)) = true
    rw [ly_tt, ih]
    rfl
theorem lys_lt (n : Nat) (ls : List Ly) : D.ltAll n (ls.map Ly.d) = true := okAll_lt 1 _ (ttAll_ok 1 _ (lys_tt ls))
end DL
namespace DL
open PySem PySem.Spec PyProof.Rows L2
variable {I : Type} {F : I → Cx} {K : PySem.W.Frag} {mg : Str → Option Value} {N : List Str} {ρ : Env} {R : Rs} {e tg iter : Expr} {Ψ : List D → (Rs → Prop) → Rs → Prop} {pos p : Pos} {elts : List Expr} {kk : Nat} {tpos : Pos}
theorem Seq.lstOf {R : Rs} {x : D} {ds : List D} (h : Seq R x ds) (hx : x ≠ .tup ds) : Lst R x ds := h.elim id fun e => absurd e hx
/-- what is walked, a list that may be changed or one that stays or a tuple, of which it is known what it is -/
theorem di_seqS {x : D} {ds : List D} (Fm : Fam F K mg N) (h : DE F K iter ρ R fun y R1 => y = x ∧ Seq R1 x ds ∧ Ψ ds (fun R => Seq R x ds) R1) : DI F K tg iter ρ R Ψ := by
  by_cases hx : x = .tup ds
  · subst hx
    exact fun H0 ι σ H Q s r f => ⟨iTup K (UE F iter), fun i => Fm.K i ▸ pi_tup (pe_u i), h H0 ι σ H _ s r fun d R1 A B v C hp s1 S1 r1 => by
      obtain ⟨rfl, hq, hp⟩ := hp
      cases r1 with
      | @tup a xs _ ha ra => exact ⟨a, rfl, ⟨xs, (ha.mono S1.ex).sqT⟩, f _ ds _ R1 A B C hp s1 S1 (itok_weak (it_tup ha ra) fun _ _ => trivial)⟩⟩
  · exact fun H0 ι σ H Q s r f => ⟨iList K (UE F iter), fun i => Fm.K i ▸ pi_list (pe_u i), h H0 ι σ H _ s r fun d R1 A B v C hp s1 S1 r1 => by
      obtain ⟨rfl, hq, hp⟩ := hp
      obtain ⟨a, xs, rfl, hs, ra⟩ := (hq.lstOf hx).at_ S1 r1
      exact ⟨a, rfl, ⟨xs, hs⟩, f _ ds _ R1 A B C hp s1 S1 (itok_weak (it_list r1) fun _ q => q.lstOf hx)⟩⟩
theorem di_enumS {x : D} {ds : List D} (Fm : Fam F K mg N) (hg : ∀ i, Gl (F i) "enumerate") (hm : mg "enumerate" = none) (h : DE F K e ρ R fun y R1 => y = x ∧ Seq R1 x ds ∧ Ψ (numbD 0 ds) (fun R => Seq R x ds) R1)
    (hst : ∀ i, starEach [e] (F i).env = [(false, eval e (F i).env)] := by intro _; rfl) : DI F K (.Tuple elts kk tpos) (.Call (.Name "enumerate" p) [e] [] pos) ρ R Ψ := by
  by_cases hx : x = .tup ds
  · subst hx
    exact fun H0 ι σ H Q s r f => ⟨iEnumT K (tCons (UE F e) tNil), fun i => Fm.K i ▸ pi_enumT (hg i) (by rw [Fm.mg i]; exact hm) (pa_cons (pe_u i) pa_nil (hst i)) (hst i), h H0 ι σ H _ s r fun d R1 A B v C hp s1 S1 r1 => by
      obtain ⟨rfl, hq, hp⟩ := hp
      cases r1 with
      | @tup a xs _ ha ra => exact ⟨a, xs, rfl, (ha.mono S1.ex).sqT, f _ _ _ R1 A B C hp s1 S1 (itok_weak (it_enumT ha ra) fun _ _ => trivial)⟩⟩
  · exact fun H0 ι σ H Q s r f => ⟨iEnum K (tCons (UE F e) tNil), fun i => Fm.K i ▸ pi_enum (hg i) (by rw [Fm.mg i]; exact hm) (pa_cons (pe_u i) pa_nil (hst i)) (hst i), h H0 ι σ H _ s r fun d R1 A B v C hp s1 S1 r1 => by
      obtain ⟨rfl, hq, hp⟩ := hp
      obtain ⟨a, xs, rfl, hs, ra⟩ := (hq.lstOf hx).at_ S1 r1
      exact ⟨a, xs, rfl, hs, f _ _ _ R1 A B C hp s1 S1 (itok_weak (it_enum r1) fun _ q => q.lstOf hx)⟩⟩
end DL
namespace DL
open PySem PySem.Spec PyProof.Rows L2
variable {I : Type} {F : I → Cx} {K : PySem.W.Frag} {mg : Str → Option Value} {N : List Str} {ρ : Env} {R : Rs} {Φ : Φ1} {a b : Expr} {pos : Pos}
/-- a sum of lists as a place of its own -/
theorem od_catO {xs ys : List D} (hz : xs.length + ys.length ≤ sizeLine) (h : Φ (.own R.length) (R ++ [.lst (xs ++ ys)])) : OD K rPlus (.lst xs) (.lst ys) R Φ := fun H0 ι H Q v w s rv rw f => .inr <| by
  cases rv with
  | lst ha ra =>
    cases rw with
    | lst hb rb =>
      refine ⟨_, _, _, _, rfl, rfl, s.ex _ _ ha, s.ex _ _ hb, ?_, fun p hp => ?_⟩
      · have e1 := ra.length
        have e2 := rb.length
        omega
      · obtain ⟨S2, s2, last⟩ := s.place hp (ra.append rb)
        exact (f.step s2).now S2 h (.own last)
theorem e_addLO (h : DE F K a ρ R fun x R1 => DE F K b ρ R1 fun y R2 => ∃ xs ys : List D, x = .lst xs ∧ y = .lst ys ∧ xs.length + ys.length ≤ sizeLine ∧ Φ (.own R2.length) (R2 ++ [.lst (xs ++ ys)])) : DE F K (.BinOp a .Add b pos) ρ R Φ :=
  de_bin (fun _ => op_plus) (h.imp fun x R1 h1 => h1.imp fun y R2 ⟨i, j, e1, e2, hz, hp⟩ => by subst e1 e2; exact od_catO hz hp)
end DL
namespace DL
open PySem PySem.Spec PyProof.Rows L2
variable {I : Type} {F : I → Cx} {K : PySem.W.Frag} {mg : Str → Option Value} {N : List Str} {ρ : Env} {R : Rs} {Φ : Φ1} {e a b : Expr} {pos p : Pos}
theorem rpAll_zip {H0 : Hp} {ι : List Addr} : ∀ {xs : List V} {ds : List D}, RpAll K H0 ι xs ds → (∀ z ∈ xs.zip ds, Rp K H0 ι z.1 z.2) ∧ (xs.zip ds).map (·.1) = xs ∧ (xs.zip ds).map (·.2) = ds
  | _, _, .nil => ⟨nofun, rfl, rfl⟩
  | _, _, .cons r t => by
    obtain ⟨h1, h2, h3⟩ := rpAll_zip t
    refine ⟨fun z hz => ?_, by simp only [List.zip_cons_cons, List.map_cons, h2], by simp only [List.zip_cons_cons, List.map_cons, h3]⟩
    rw [List.zip_cons_cons, List.mem_cons] at hz
    rcases hz with rfl | hz
    · exact r
    · exact h1 z hz
theorem rpAll_of {H0 : Hp} {ι : List Addr} : ∀ {zs : List (V × D)}, (∀ z ∈ zs, Rp K H0 ι z.1 z.2) → RpAll K H0 ι (zs.map (·.1)) (zs.map (·.2))
  | [], _ => .nil
  | z :: zs, h => .cons (h z (List.mem_cons_self ..)) (rpAll_of fun y hy => h y (List.mem_cons_of_mem _ hy))
theorem py_map : ∀ ds : List D, D.pyAll ds = ds.map D.py
  | [] => rfl
  | d :: ds => by rw [D.pyAll, py_map ds]; rfl
theorem cd_sorted {x : D} {ds : List D} {m : Nat} (hx : Lst R x ds) (hd : D.okAll m ds = true) (hm : m ≤ 60) (S : Sb (D.pyAll ds)) (h : Φ (.lst (sortD ds)) R) : CD K (rSortD K) [x] R Φ := fun H0 ι H Q vs s rs f => by
  cases rs with
  | cons rv rr =>
    cases rr
    obtain ⟨a, xs, rfl, hs, ra⟩ := hx.at_ s rv
    obtain ⟨z1, z2, z3⟩ := rpAll_zip ra
    have hin : ∀ z ∈ xs.zip ds, z.2 ∈ ds := fun z hz => by
      have : z.2 ∈ (xs.zip ds).map (·.2) := List.mem_map.mpr ⟨z, hz, rfl⟩
      rwa [z3] at this
    have e1 : ((xs.zip ds).map fun z => (z.1, z.2.py)).map (·.1) = xs := by rw [List.map_map]; exact z2
    have e2 : ((xs.zip ds).map fun z => (z.1, z.2.py)).map (·.2) = D.pyAll ds := by
      rw [List.map_map, py_map]
      have : ((xs.zip ds).map (·.2)).map D.py = ds.map D.py := by rw [z3]
      rw [List.map_map] at this
      exact this
    refine ⟨a, (xs.zip ds).map fun z => (z.1, z.2.py), rfl, by rw [e1]; exact hs, fun z hz => ?_, by rw [e2]; exact S, fun z hz => ?_, fun p hp => ?_⟩
    · obtain ⟨y, hy, rfl⟩ := List.mem_map.mp hz
      have o := okAll_at hd y.2 (hin y hy)
      have r := (z1 y hy).see s
      rw [see_ok _ o] at r
      exact r.dp o
    · obtain ⟨y, hy, rfl⟩ := List.mem_map.mp hz
      have := (D.ok_plain m _ (okAll_at hd y.2 (hin y hy))).2
      show y.2.py.depth ≤ 60
      omega
    · have key : (((xs.zip ds).map fun z => (z.1, z.2.py)).mergeSort fun x y => leT x.2 y.2).map (·.1) = ((xs.zip ds).mergeSort fun x y => D.le x.2 y.2).map (·.1) := by
        have q := List.map_mergeSort (r := fun x y : V × D => D.le x.2 y.2) (s := fun x y : V × PyData => leT x.2 y.2) (f := fun z : V × D => (z.1, z.2.py)) (l := xs.zip ds) (fun a _ b _ => rfl)
        rw [← q, List.map_map]
        rfl
      have key2 : ((xs.zip ds).mergeSort fun x y => D.le x.2 y.2).map (·.2) = sortD ds := by
        rw [List.map_mergeSort (r := fun x y : V × D => D.le x.2 y.2) (s := D.le) (fun a _ b _ => rfl), z3]
        rfl
      rw [key]
      obtain ⟨S2, s2⟩ := s.laid (o := .lst (((xs.zip ds).mergeSort fun x y => D.le x.2 y.2).map (·.1))) hp
      have rr : RpAll K H0 ι (((xs.zip ds).mergeSort fun x y => D.le x.2 y.2).map (·.1)) (sortD ds) := by
        rw [← key2]
        exact rpAll_of fun z hz => z1 z ((List.mergeSort_perm _ _).mem_iff.mp hz)
      exact (f.step s2).now S2 h (.lst upd_same (rr.step s2))
theorem sorted_i (Fm : Fam F K mg N) (i : I) : CallR (F i) (.builtin "sorted") (rSortD K) := Fm.K i ▸ cr_sortD (Fm.un i)
theorem e_sorted (B : Bl mg) (Fm : Fam F K mg N) (hg : ∀ i, Gl (F i) "sorted") (h : DE F K e ρ R fun x R1 => ∃ (ds : List D) (m : Nat), Lst R1 x ds ∧ D.okAll m ds = true ∧ m ≤ 60 ∧ Sb (D.pyAll ds) ∧ Φ (.lst (sortD ds)) R1)
    (hst : ∀ i, starEach [e] (F i).env = [(false, eval e (F i).env)] := by intro _; rfl) : DE F K (.Call (.Name "sorted" p) [e] [] pos) ρ R Φ :=
  de_blf Fm hg B.sorted (by decide +kernel) (sorted_i Fm) (da_cons (h.imp fun x R1 ⟨ds, m, h1, h2, h3, h4, hp⟩ => da_nil (cd_sorted h1 h2 h3 h4 hp)) hst) hst
theorem cd_repr {x y : D} {m : Nat} (hx : x.see R = y) (hy : D.ok m y = true) (hm : m ≤ 60) (ha : ∃ ds, y = .lst ds ∨ y = .rd ds ∨ y = .tup ds) (h1 : y.py.showable = true) (h2 : y.py.hasDict = false) (h4 : y.py.shown.length ≤ sizeLine) (h : Φ (.str y.py.shown) R) : CD K (rRepr K) [x] R Φ := fun H0 ι H Q vs s rs f => by
  cases rs with
  | cons rv rr =>
    cases rr
    have r := rv.see s
    rw [hx] at r
    have dp := r.dp hy
    have hz := (D.ok_plain m _ hy).2
    rename_i v
    obtain ⟨a, rfl⟩ : ∃ a, v = V.ref a := by
      obtain ⟨ds, rfl | rfl | rfl⟩ := ha
      all_goals (clear hx hy rv dp; cases r; exact ⟨_, rfl⟩)
    exact ⟨a, y.py, rfl, dp, h1, h2, by omega, h4, f.now s h (.str _)⟩
theorem e_repr {W : World0} {j : Nat} (B : Bl W.mg) (Fm : FamW F W N j) (hg : ∀ i, Gl (F i) "repr") (h : DE F W.K e ρ R fun x R1 => ∃ (y : D) (m : Nat), x.see R1 = y ∧ D.ok m y = true ∧ m ≤ 60 ∧ (∃ ds, y = .lst ds ∨ y = .rd ds ∨ y = .tup ds) ∧ y.py.showable = true ∧ y.py.hasDict = false ∧ y.py.shown.length ≤ sizeLine ∧ Φ (.str y.py.shown) R1)
    (hst : ∀ i, starEach [e] (F i).env = [(false, eval e (F i).env)] := by intro _; rfl) : DE F W.K (.Call (.Name "repr" p) [e] [] pos) ρ R Φ :=
  de_blf Fm.toFam hg B.repr (by decide +kernel) (fun i => Fm.toFam.K i ▸ cr_repr (Fm.toFam.un i) (Fm.gd i)) (da_cons (h.imp fun x R1 ⟨y, m, h1, h2, h3, h4, h5, h6, h7, hp⟩ => da_nil (cd_repr h1 h2 h3 h4 h5 h6 h7 hp)) hst) hst
end DL
namespace DL
open PySem PySem.Spec PyProof.Rows L2
variable {I : Type} {F : I → Cx} {W : World0} {N : List Str} {ρ : Env} {R : Rs} {Φ : Φ1} {a : Expr} {pos apos : Pos} {j : Nat}
theorem e_clear (Fm : FamW F W N j) (h : DE F W.K a ρ R fun x R1 => ∃ k ds0, x = .own k ∧ R1[k]? = some (.lst ds0) ∧ Φ .non (R1.set k (.lst [])))
    (hbase : ∀ i, attributeBase a "clear" (F i).env (eval a (F i).env) = eval a (F i).env := by intro _; rfl) (hline : (apos.endLine == pos.line) = true := by rfl) :
    DE F W.K (.Call (.Attribute a "clear" apos) [] [] pos) ρ R Φ :=
  de_mL0 Fm PySem.F.slot_list_clear PySem.F.type_list_clear (fun _ => mt_clear) (h.imp fun x R1 ⟨k, ds0, e1, e2, hp⟩ => ⟨k, ds0, e1, e2, md_clear e2 hp⟩) hbase hline
end DL
namespace DL
open PySem PySem.Spec PyProof.Rows L2 PySem.W
/-! ### data as keys -/
mutual
def nkP : PyData → NestedKey
  | .bool b => .num (if b then 1 else 0)
  | .int i => .num i
  | .str x => .text x
  | .tuple ds => .tup (nkPs ds)
  | .none | .list _ | .dict _ => .none
def nkPs : List PyData → List NestedKey
  | [] => []
  | d :: ds => nkP d :: nkPs ds
end
mutual
theorem nk_py : ∀ d : D, d.nk = nkP d.py
  | .tup ds => by rw [D.nk, D.py, nkP, nks_py ds]
  | .non => rfl
  | .bl _ => rfl
  | .int _ => rfl
  | .str _ => rfl
  | .ty _ => rfl
  | .lst _ => rfl
  | .rd _ => rfl
  | .own _ => rfl
theorem nks_py : ∀ ds : List D, D.nkAll ds = nkPs (D.pyAll ds)
  | [] => rfl
  | d :: ds => by rw [D.nkAll, D.pyAll, nkPs, nk_py d, nks_py ds]
end
mutual
def nkG : Nat → PyData → Bool
  | _, .none => true
  | _, .bool _ => true
  | _, .int _ => true
  | _, .str _ => true
  | n + 1, .tuple ds => nkGs n ds
  | 0, .tuple _ => false
  | _, .list _ => false
  | _, .dict _ => false
def nkGs : Nat → List PyData → Bool
  | _, [] => true
  | n, d :: ds => nkG n d && nkGs n ds
end
mutual
theorem nkOk_py : ∀ (n : Nat) (d : D), D.nkOk n d = true → nkG n d.py = true
  | n + 1, .tup ds, h => nkOk_pys n ds h
  | 0, .tup _, h => by cases h
  | 0, .non, _ => rfl
  | 0, .bl _, _ => rfl
  | 0, .int _, _ => rfl
  | 0, .str _, _ => rfl
  | _ + 1, .non, _ => rfl
  | _ + 1, .bl _, _ => rfl
  | _ + 1, .int _, _ => rfl
  | _ + 1, .str _, _ => rfl
theorem nkOk_pys : ∀ (n : Nat) (ds : List D), D.nkOkAll n ds = true → nkGs n (D.pyAll ds) = true
  | _, [], _ => by
    rw [D.pyAll, nkGs]
  | n, d :: ds, h => by
    rw [D.nkOkAll] at h
    obtain ⟨h1, h2⟩ := Bool.and_eq_true_iff.mp h
    rw [D.pyAll, nkGs, nkOk_py n d h1, nkOk_pys n ds h2]
    rfl
end
mutual
theorem reads_nk : ∀ (n : Nat) (d : PyData) {h : Heap} {v : Value} {as : List Addr}, Reads h v d as → nkG n d = true → NestedIs h (nkP d) v ∧ (nkP d).depth ≤ n
  | n, .none, _, _, _, r, _ => by cases r; exact ⟨.none, by simp [nkP, NestedKey.depth]⟩
  | n, .bool b, _, _, _, r, _ => by cases r; exact ⟨.bool rfl, by simp [nkP, NestedKey.depth]⟩
  | n, .int i, _, _, _, r, _ => by cases r; exact ⟨.int _ _, by simp [nkP, NestedKey.depth]⟩
  | n, .str x, _, _, _, r, _ => by cases r; exact ⟨.text _ _, by simp [nkP, NestedKey.depth]⟩
  | n + 1, .tuple ds, _, _, _, r, h => by
    cases r with
    | tuple h1 h2 h3 h4 =>
      have h5 : nkGs n ds = true := h
      obtain ⟨k1, k2⟩ := reads_nks n ds h4 h5
      exact ⟨.tup h1 h2 h3 k1, by rw [nkP, NestedKey.depth]; omega⟩
  | 0, .tuple _, _, _, _, _, h => by simp [nkG] at h
  | n, .list _, _, _, _, _, h => by simp [nkG] at h
  | n, .dict _, _, _, _, _, h => by simp [nkG] at h
theorem reads_nks : ∀ (n : Nat) (ds : List PyData) {h : Heap} {vs : List Value} {as : List Addr}, ReadsAll h vs ds as → nkGs n ds = true → NestedAll h (nkPs ds) vs ∧ NestedKey.depthAll (nkPs ds) ≤ n
  | n, [], _, _, _, r, _ => by cases r; exact ⟨.nil, by simp [nkPs, NestedKey.depthAll]⟩
  | n, d :: ds, _, _, _, r, h => by
    cases r with
    | cons r1 r2 =>
      rw [nkGs] at h
      obtain ⟨h1, h2⟩ := Bool.and_eq_true_iff.mp h
      obtain ⟨a1, a2⟩ := reads_nk n d r1 h1
      obtain ⟨b1, b2⟩ := reads_nks n ds r2 h2
      exact ⟨.cons a1 b1, by rw [nkPs, NestedKey.depthAll]; omega⟩
end
mutual
theorem nkP_eqv : ∀ (n : Nat) (x y : PyData), nkG n x = true → nkG n y = true → PyData.eqv x y = decide (nkP x = nkP y)
  | n, .none, y, _, hy => by cases y <;> first | rfl | (simp [nkG] at hy; done) | (simp [PyData.eqv, nkP])
  | n, .bool b, y, _, hy => by
    cases y with
    | bool c => cases b <;> cases c <;> rfl
    | int j =>
      simp only [PyData.eqv, nkP, NestedKey.num.injEq]
      exact (decide_eq_decide.mpr Iff.rfl)
    | list _ => simp [nkG] at hy
    | dict _ => simp [nkG] at hy
    | _ => simp [PyData.eqv, nkP]
  | n, .int i, y, _, hy => by
    cases y with
    | bool c =>
      simp only [PyData.eqv, nkP, NestedKey.num.injEq]
      exact (decide_eq_decide.mpr Iff.rfl)
    | int j =>
      simp only [PyData.eqv, nkP, NestedKey.num.injEq]
      exact (decide_eq_decide.mpr Iff.rfl)
    | list _ => simp [nkG] at hy
    | dict _ => simp [nkG] at hy
    | _ => simp [PyData.eqv, nkP]
  | n, .str s, y, _, hy => by
    cases y with
    | str t =>
      simp only [PyData.eqv, nkP, NestedKey.text.injEq]
      by_cases e : s = t
      · subst e; simp
      · rw [beq_eq_false_iff_ne.mpr e, decide_eq_false e]
    | list _ => simp [nkG] at hy
    | dict _ => simp [nkG] at hy
    | _ => simp [PyData.eqv, nkP]
  | n + 1, .tuple xs, y, hx, hy => by
    cases y with
    | tuple ys =>
      have h1 : nkGs n xs = true := hx
      have h2 : nkGs n ys = true := hy
      rw [PyData.eqv, nkP_eqvs n xs ys h1 h2, nkP, nkP]
      simp only [NestedKey.tup.injEq]
    | list _ => simp [nkG] at hy
    | dict _ => simp [nkG] at hy
    | _ => simp [PyData.eqv, nkP]
  | 0, .tuple _, _, h, _ => by simp [nkG] at h
  | n, .list _, _, h, _ => by simp [nkG] at h
  | n, .dict _, _, h, _ => by simp [nkG] at h
theorem nkP_eqvs : ∀ (n : Nat) (xs ys : List PyData), nkGs n xs = true → nkGs n ys = true → PyData.eqvAll xs ys = decide (nkPs xs = nkPs ys)
  | n, [], [], _, _ => rfl
  | n, [], y :: ys, _, _ => by simp [PyData.eqvAll, nkPs]
  | n, x :: xs, [], _, _ => by simp [PyData.eqvAll, nkPs]
  | n, x :: xs, y :: ys, hx, hy => by
    rw [nkGs] at hx hy
    obtain ⟨h1, h2⟩ := Bool.and_eq_true_iff.mp hx
    obtain ⟨k1, k2⟩ := Bool.and_eq_true_iff.mp hy
    rw [PyData.eqvAll, nkP_eqv n x y h1 k1, nkP_eqvs n xs ys h2 k2, nkPs, nkPs]
    by_cases e1 : nkP x = nkP y <;> by_cases e2 : nkPs xs = nkPs ys <;> simp [e1, e2]
end
end DL
namespace DL
open PySem PySem.Spec PyProof.Rows L2 PySem.W
/-! ### dicts whose keys are tuples, over values -/
abbrev XN := NestedKey × Addr × V
def RelN (x : XN) (u : NestedKey × Addr × Value) : Prop := x.1 = u.1 ∧ x.2.1 = u.2.1 ∧ L2.RelV x.2.2 u.2.2
/-- the keys of such a dict are known data -/
def KeysN (K : PySem.W.Frag) (H : Hp) (xs : List XN) : Prop := ∀ x ∈ xs, ∃ d : PyData, nkG 8 d = true ∧ nkP d = x.1 ∧ Dp K H (.ref x.2.1) d
def putN (xs : List XN) (k : NestedKey) (b : Addr) (v : V) : List XN := if xs.any (fun x => decide (x.1 = k)) then xs.map (fun x => if x.1 = k then (x.1, x.2.1, v) else x) else xs ++ [(k, b, v)]
theorem putN_len (xs : List XN) (k : NestedKey) (b : Addr) (v : V) : (putN xs k b v).length ≤ xs.length + 1 := by
  unfold putN
  split <;> simp
section
variable {X : Cx} {pins : List (Addr × Obj)} {σ : L2.St} {H : Hp} {s : Shared} {a : Addr} {xs : List XN}
theorem is_nk (I : Inv X pins σ H s) {d : PyData} {b : Addr} (hd : Dp X.K H (.ref b) d) (hk : nkG 8 d = true) : (nestedKind X.prog X.w).is s.heap (nkP d) b := by
  obtain ⟨as, r⟩ := Dp.reads I d (.ref b) (.ref b) hd rfl
  exact reads_nk 8 d r hk
theorem any_rel {k : NestedKey} : ∀ {xs : List XN} {us : List (NestedKey × Addr × Value)}, Paired RelN xs us → (xs.any fun x => decide (x.1 = k)) = (atKey us k).isSome
  | _, _, .nil => rfl
  | _, _, .cons (a := x) (b := u) h t => by
    have ih := any_rel (k := k) t
    by_cases e : u.1 = k
    · have e2 : x.1 = k := h.1.trans e
      simp [atKey, List.find?_cons, e, e2]
    · have e2 : ¬ x.1 = k := fun z => e (h.1.symm.trans z)
      rw [List.any_cons, decide_eq_false e2, Bool.false_or, ih]
      simp [atKey, List.find?_cons, e]
theorem rel_put {k : NestedKey} {b : Addr} {v : V} {u : Value} (rv : L2.RelV v u) {xs : List XN} {us : List (NestedKey × Addr × Value)} (r : Paired RelN xs us) : Paired RelN (putN xs k b v) (storedH us k b u) := by
  unfold putN storedH
  rw [any_rel r]
  by_cases h : (atKey us k).isSome = true
  · rw [if_pos h, if_pos h]
    have : ∀ {xs : List XN} {us : List (NestedKey × Addr × Value)}, Paired RelN xs us → Paired RelN (xs.map (fun x => if x.1 = k then (x.1, x.2.1, v) else x)) (us.map (putAt k u)) := by
      intro xs us r
      induction r with
      | nil => exact .nil
      | @cons x u' xs us h t ih =>
        refine .cons ?_ ih
        unfold putAt
        show RelN (if x.1 = k then (x.1, x.2.1, v) else x) (if u'.1 = k then (u'.1, u'.2.1, u) else u')
        by_cases e : u'.1 = k
        · rw [if_pos (h.1.trans e), if_pos e]
          exact ⟨h.1, h.2.1, rv⟩
        · rw [if_neg (fun z => e (h.1.symm.trans z)), if_neg e]
          exact h
    exact this r
  · rw [if_neg h, if_neg h]
    have : ∀ {xs : List XN} {us : List (NestedKey × Addr × Value)}, Paired RelN xs us → Paired RelN (xs ++ [(k, b, v)]) (us ++ [(k, b, u)]) := by
      intro xs us r
      induction r with
      | nil => exact .cons ⟨rfl, rfl, rv⟩ .nil
      | cons h t ih => exact .cons h ih
    exact this r
theorem raw_of (I : Inv X pins σ H s) (hx : H a = some (.ext (RawN X.prog X.w a xs))) (hk : KeysN X.K H xs) : (a == sysModules) = false ∧ ∃ us, Paired RelN xs us ∧ us.length ≤ sizeLine ∧ s.heap.DictOfH (nestedKind X.prog X.w) a us := by
  obtain ⟨⟨us, r, hz, hs, o, es, ep, h1, h2, h3, h4, h5⟩, _, _⟩ := (show ObjOk X.prog X.w H s.heap a (.ext _) from I.hok a _ hx)
  refine ⟨hs, us, r, hz, o, es, ep, h1, h2, h3, h4, ?_, h5⟩
  intro u hu
  obtain ⟨i, hi, e⟩ := List.mem_iff_getElem.mp hu
  have hl : xs.length = us.length := Paired.length r
  have : ∀ {xs : List XN} {us : List (NestedKey × Addr × Value)}, Paired RelN xs us → ∀ u ∈ us, ∃ x ∈ xs, RelN x u := by
    intro xs us r
    induction r with
    | nil => intro u hu; cases hu
    | cons h t ih =>
      intro u hu
      rcases List.mem_cons.mp hu with e | hu
      · subst e; exact ⟨_, List.mem_cons_self .., h⟩
      · obtain ⟨x, hx, q⟩ := ih u hu
        exact ⟨x, List.mem_cons_of_mem _ hx, q⟩
  obtain ⟨x, hx, q1, q2, _⟩ := this r u hu
  obtain ⟨d, d1, d2, d3⟩ := hk x hx
  rw [← q1, ← q2, ← d2]
  exact is_nk I d3 d1
theorem rawN_ext {P : Program} {w : World} {H' : Hp} {h' : Heap} {us : List (NestedKey × Addr × Value)} (r : Paired RelN xs us) (hz : us.length ≤ sizeLine) (hs : (a == sysModules) = false) (dd : h'.DictOfH (nestedKind P w) a us) : ObjOk P w H' h' a (.ext (RawN P w a xs)) := by
  obtain ⟨o, es, ep, h1, h2, h3, h4, _, h5⟩ := dd
  refine ⟨⟨us, r, hz, hs, o, es, ep, h1, h2, h3, h4, h5⟩, ⟨o, h1⟩, ?_⟩
  rintro g g' ⟨us, r, hz, hs, o, es, ep, h1, h2, h3, h4, h5⟩ k
  exact ⟨us, r, hz, hs, o, es, ep, k _ h1, h2, h3, h4, h5⟩
/-- d[y] = v -/
theorem n_setItem {A : Around} {E : Value → Shared → Prop} {b : Addr} {d : PyData} {v : V} {u : Value} {Q : Unit → Shared → Prop} (hu : A.units + 9 < cLine) (I : Inv X pins σ H s) (hx : H a = some (.ext (RawN X.prog X.w a xs))) (hk : KeysN X.K H xs)
    (hd : Dp X.K H (.ref b) d) (hg : nkG 8 d = true) (rv : L2.RelV v u) (hz : xs.length < sizeLine) (h : ∀ s', Inv X pins σ (upd H a (.ext (RawN X.prog X.w a (putN xs (nkP d) b v)))) s' → Q () s') :
    wpAny (model X.prog X.w) A (setItem (.ref a) (.ref b) u) Q E s := by
  obtain ⟨hs, us, r, hz2, dd⟩ := raw_of I hx hk
  refine wpAny_setItem_heap (hsz := hz2) (by show A.units + 1 + 8 < cLine; omega) (is_nk I hd hg) dd fun h' dd' hs' => h _ ?_
  have r' := rel_put (k := nkP d) (b := b) rv r
  have he : ∃ q, h'.get? a = some q := let ⟨q, _, _, hq, _⟩ := dd'; ⟨q, hq⟩
  refine d_write I (by rw [hx]; exact True.intro) hs' he (rawN_ext r' ?_ hs dd')
  rw [← Paired.length r']
  have := putN_len xs (nkP d) b v
  omega
end
/-- the statement d[y] = v -/
def sNPut (X : Cx) (td ty tv : TE) : TS := fun D σ H => tv σ H fun v H1 => td σ H1 fun x H2 => ty σ H2 fun y H3 => ∃ a b xs d, x = .ref a ∧ H3 a = some (.ext (RawN X.prog X.w a xs)) ∧ KeysN X.K H3 xs ∧ y = .ref b ∧ Dp X.K H3 (.ref b) d ∧ nkG 8 d = true ∧ xs.length < sizeLine ∧
  D.nx σ (upd H3 a (.ext (RawN X.prog X.w a (putN xs (nkP d) b v))))
theorem ps_nput {X : Cx} {o i value : Expr} {pos pos' : Pos} {td ty tv : TE} (hu : X.A.units + 9 < cLine) (ho : PE X o td) (hi : PE X i ty) (hv : PE X value tv) (hs : swapsWith value (some (.Subscript o i pos')) pos.line X.env = pure false) :
    PS X (.Assign [.Subscript o i pos'] value pos) (sNPut X td ty tv) := by
  refine ⟨fun pins s σ H D I h => ?_⟩
  refine wpAny_Assign_Subscript (thn (hv.run pins s σ H _ I h) fun r s1 ⟨v, H1, I1, rv, q1⟩ => thn (ho.run pins s1 σ H1 _ I1 q1) fun u s2 ⟨x, H2, I2, rx, q2⟩ => thn (hi.run pins s2 σ H2 _ I2 q2) fun iv s3 ⟨y, H3, I3, ry, a, b, xs, d, ex, hx, hk, ey, hd, hg, hz, q3⟩ => ?_) hs
  subst ex ey
  obtain rfl : u = Value.ref a := rx
  obtain rfl : iv = Value.ref b := ry
  exact n_setItem hu I3 hx hk hd hg rv hz fun s4 I4 => ⟨σ, _, I4, q3⟩
/-! ### {k: v}, one pair whose key is a tuple -/
def tNDisp (X : Cx) (tk tv : TE) : TE := fun σ H Q => ∀ p, H p = none → tk σ (upd H p (.ext (RawN X.prog X.w p []))) fun y H1 => tv σ H1 fun v H2 => ∃ b d, y = .ref b ∧ H2 p = some (.ext (RawN X.prog X.w p [])) ∧ Dp X.K H2 (.ref b) d ∧ nkG 8 d = true ∧
  Q (.ref p) (upd H2 p (.ext (RawN X.prog X.w p [(nkP d, b, v)])))
theorem pe_ndisp {X : Cx} {k v : Expr} {pos : Pos} {tk tv : TE} (hu : X.A.units + 8 < cLine) (hk : PE X k tk) (hv : PE X v tv) : PE X (.Dict [some k] [v] pos) (tNDisp X tk tv) := by
  refine ⟨fun pins s σ H Q I q => ?_⟩
  have hn := I.hok.fresh (Nat.le_refl s.heap.objs.size)
  have hsm : (s.heap.objs.size == sysModules) = false := beq_eq_false_iff_ne.mpr (Nat.ne_of_gt I.big)
  have I1 := I.laid (a := s.heap.objs.size) (o := .ext (RawN X.prog X.w s.heap.objs.size [])) (h' := s.heap.push { cls := .type "dict", data := .dict #[] }) (t' := s.toks) (fun _ _ q => Heap.get?_push_of_some _ q) (Nat.le_refl _)
    (rawN_ext (us := []) .nil (Nat.zero_le _) hsm (Heap.DictOfH.new s.heap))
  have z := (pps_cons hk hv (pps_nil (X := X) (pos := pos))).run pins _ σ _ (fun ps H2 => match ps with
      | [(y, v')] => ∃ b d, y = .ref b ∧ H2 s.heap.objs.size = some (.ext (RawN X.prog X.w s.heap.objs.size [])) ∧ Dp X.K H2 (.ref b) d ∧ nkG 8 d = true ∧ Q (.ref s.heap.objs.size) (upd H2 s.heap.objs.size (.ext (RawN X.prog X.w s.heap.objs.size [(nkP d, b, v')])))
      | _ => False) I1 (q _ hn)
  have sub : wpAny (model X.prog X.w) X.A (subDict (pairTrees [some k] [v] X.env pos)) (fun d s' => EP X pins σ Q (.ref d) s') X.xe s :=
    wpAny_subDictH (knd := nestedKind X.prog X.w) hu (by show 1 ≤ 15; decide) (thn z fun ws s2 ⟨ps, H2, I2, rel, z⟩ => by
      match ps, rel, z with
      | [(y, v')], rel, z =>
        obtain ⟨b, d, ey, hx, hd, hg, q2⟩ := z
        subst ey
        cases rel with
        | @cons _ w' _ ws' h t =>
          cases t
          obtain ⟨u1, u2⟩ := w'
          obtain ⟨r1, r2⟩ := h
          cases (show u1 = Value.ref b from r1)
          have hkey := is_nk I2 hd hg
          obtain ⟨_, us, r0, _, dd⟩ := raw_of I2 hx (fun _ m => nomatch m)
          cases r0
          refine ⟨[(nkP d, b, u2)], ⟨rfl, rfl, hkey, trivial⟩, dd, fun h' tk dd' hs => ⟨.ref s.heap.objs.size, _, ?_, rfl, q2⟩⟩
          have he : ∃ q, h'.get? s.heap.objs.size = some q := let ⟨q, _, _, hq, _⟩ := dd'; ⟨q, hq⟩
          exact d_write I2 (by rw [hx]; exact True.intro) hs he (rawN_ext (us := [(nkP d, b, u2)]) (.cons ⟨rfl, rfl, r2⟩ .nil) (by show 1 ≤ sizeLine; rw [sizeLine_eq]; decide) hsm dd'))
  rw [arm_eval_Dict, zip_pairTrees [some k] [v] X.env pos rfl rfl, dictDisplay_pairs _ (by intro z; cases z) (by show 1 < 17; decide)]
  exact wpAny_bind (wpAny_standAt (wpAny_bind (wpAny_mono sub (fun d s' h => wpAny_pure h) fun _ _ e => e)))
end DL
namespace DL
open PySem PySem.Spec PyProof.Rows L2 PySem.W
/-! ### sorted(d) of a dict whose keys are tuples -/
def rSortN (X : Cx) : List V → Hp → VK → Prop := fun vs H Q => ∃ (a : Addr) (xs : List XN) (zs : List (V × PyData)), vs = [V.ref a] ∧ H a = some (.ext (RawN X.prog X.w a xs)) ∧ KeysN X.K H xs ∧ (xs.map fun x => V.ref x.2.1) = zs.map (·.1) ∧ (∀ z ∈ zs, Dp X.K H z.1 z.2) ∧ Sb (zs.map (·.2)) ∧ (∀ z ∈ zs, z.2.depth ≤ 60) ∧
  ∀ p, H p = none → Q (.ref p) (upd H p (.lst ((zs.mergeSort fun x y => leT x.2 y.2).map (·.1))))
theorem vals_of_at : ∀ {xs : List V} {us : List Value}, xs.length = us.length → (∀ (i : Nat) (x : V), xs[i]? = some x → ∃ u : Value, us[i]? = some u ∧ L2.RelV x u) → Vals xs us
  | [], [], _, _ => .nil
  | x :: xs, u :: us, hl, h => by
    obtain ⟨u', e, r⟩ := h 0 x rfl
    cases e
    exact .cons r (vals_of_at (by simpa using hl) fun i y e => by simpa using h (i + 1) y (by simpa using e))
  | [], _ :: _, hl, _ => by simp at hl
  | _ :: _, [], hl, _ => by simp at hl
theorem rel_at : ∀ {xs : List XN} {us : List (NestedKey × Addr × Value)} {i : Nat} {x : XN}, Paired RelN xs us → xs[i]? = some x → ∃ u, us[i]? = some u ∧ RelN x u
  | _, _, _, _, .nil, e => by simp at e
  | _, _, 0, _, .cons r _, e => by cases e; exact ⟨_, rfl, r⟩
  | _, _, i + 1, x, .cons _ t, e => rel_at (i := i) t e
section
variable {X : Cx}
theorem cr_sortN (hu : X.A.units + 200 < cLine) (hcalm : X.calm = true) : CallR X (.builtin "sorted") (rSortN X) := by
  intro pins s σ H vs us Q I r h
  obtain ⟨a, xs, zs, rfl, hx, hk, hxz, hd, S, hz, q⟩ := h
  rw [Vals.ref1 r]
  obtain ⟨lo, ws, rel, hsz, dd⟩ := raw_of I hx hk
  obtain ⟨o, es, ep, h1, h2, h3, h4, h5, h6⟩ := id dd
  have hes : es.size = ws.length := size_of_entries h4
  have hlx : xs.length = ws.length := Paired.length rel
  have hlz : zs.length = xs.length := by simpa using (congrArg List.length hxz).symm
  have g : ∀ (h' : Heap) (tk : Nat) (acc : Array Value), (∀ b o, s.heap.get? b = some o → h'.get? b = some o) → Vals (zs.map (·.1)) acc.toList →
      wpAny (model X.prog X.w) X.A.in1.in1 (Builtin.«list.sort» ⟨[.ref h'.objs.size], []⟩) (fun f s' => f = .done (.ret .none) ∧ EP X pins σ Q (.ref h'.objs.size) s') (fun _ _ => False) { s with heap := h'.push (seqObj "list" acc.toList.toArray 0), toks := tk } := by
    intro h' tk acc hkeep rv
    have I1 : Inv X pins σ H { s with heap := h', toks := tk } := I.kept hkeep
    have hoL : (h'.push (seqObj "list" acc.toList.toArray 0)).get? h'.objs.size = some (seqObj "list" acc.toList.toArray 0) := Heap.get?_push_size _ rfl
    have hl : acc.toList.length = zs.length := by have := Vals.length rv; rw [List.length_map] at this; exact this.symm
    let G := sortingHeap (h'.push (seqObj "list" acc.toList.toArray 0)) h'.objs.size acc.toList
    have hG : ∀ b o, h'.get? b = some o → G.get? b = some o := fun b o e => sortingHeap_old (Nat.ne_of_lt (Heap.lt_size e)) (Heap.get?_push_of_some _ e)
    have e := each_of I1 rv hd
    have e2 : EachIs (fun u (z : V × PyData) => L2.RelV z.1 u ∧ ∃ as, Reads G u z.2 as) acc.toList zs := e.mono fun u z ⟨h1, as, h2⟩ => ⟨h1, as, Reads.keeps hG h2⟩
    have e3 : EachIs (fun u d => ∃ as, Reads G u d as) acc.toList (zs.map (·.2)) := each_map (R := fun u d => ∃ as, Reads G u d as) (·.2) (e2.mono fun _ _ h => h.2)
    have hu2 : ∀ d ∈ zs.map (·.2), X.A.in1.in1.units + d.depth < cLine := by
      intro d hd
      obtain ⟨z, hz1, rfl⟩ := List.mem_map.mp hd
      have := hz z hz1
      show X.A.units + 1 + 1 + z.2.depth < cLine
      omega
    refine list_sort_vals (s := { s with heap := h'.push (seqObj "list" acc.toList.toArray 0), toks := tk }) hoL (sorts_cmp (s := { s with heap := G, toks := tk }) e3 S hu2) (by omega) ⟨rfl, ?_⟩
    have hkk : EachIs (fun v (b : V × PyData) => (dataKind G (zs.map (·.2))).keyOf v = some (keyToks b.2)) acc.toList zs := by
      have : ∀ {us : List Value} {ys : List (V × PyData)}, (∀ y ∈ ys, y.2 ∈ zs.map (·.2)) → EachIs (fun u (z : V × PyData) => L2.RelV z.1 u ∧ ∃ as, Reads G u z.2 as) us ys → EachIs (fun v (b : V × PyData) => (dataKind G (zs.map (·.2))).keyOf v = some (keyToks b.2)) us ys := by
        intro us ys hm h
        induction h with
        | nil => exact .nil
        | cons h t ih =>
          obtain ⟨_, as, h2⟩ := h
          exact .cons (dk_some S.plain (hm _ (List.mem_cons_self ..)) h2) (ih fun y hy => hm y (List.mem_cons_of_mem _ hy))
      exact this (fun y hy => List.mem_map.mpr ⟨y, hy, rfl⟩) e2
    have ov := sortVals_each (κ := dataKind G (zs.map (·.2))) (rev := false) (fun b : V × PyData => keyToks b.2) e2 hkk
    obtain ⟨e', he'⟩ := PyProof.Rows.sortedHeap_at (vs := acc.toList) (out := (sortVals (dataKind G (zs.map (·.2))) false acc.toList acc.toList).toArray) hoL
    have hlen : ((zs.mergeSort fun x y => leT x.2 y.2).map (·.1)).length ≤ sizeLine := by
      rw [List.length_map, (List.mergeSort_perm zs _).length_eq]
      omega
    refine ⟨.ref h'.objs.size, upd H h'.objs.size (.lst ((zs.mergeSort fun x y => leT x.2 y.2).map (·.1))), I1.laid (t' := tk) (fun b u e => ?_) (Nat.le_refl _) ⟨hlen, _, e', vals_each ov, he'⟩, rfl, q _ (I1.hok.fresh (Nat.le_refl _))⟩
    have hb : b < h'.objs.size := Heap.lt_size e
    rw [PyProof.Rows.sortedHeap_old (Nat.ne_of_lt hb) (by rw [size_push']; exact Nat.lt_succ_of_lt hb)]
    exact Heap.get?_push_of_some _ e
  refine Calls.call_function_entry kind_sorted plain_sorted entry_sorted (args_sorted1 _) ?_
  show wpAny _ _ (Builtin.«sorted» _) _ _ _
  unfold Builtin.«sorted»
  refine wpAny_bind (m := checkCount "sorted" 1 1 _) (wpAny_pure (wpAny_bind (kdu_collect (A := X.A.in1) (KdlSrc.rawDict (es := es) (ep := ep) lo) (I.ok.hd hcalm) ⟨o, h1, h2, h3⟩ (by omega) fun h' tk acc hkeep hacc => ?_)))
  have hal : acc.toList.length = zs.length := by rw [Array.length_toList, hacc.1]; omega
  have rv : Vals (zs.map (·.1)) acc.toList := vals_of_at (by rw [List.length_map]; exact hal.symm) fun i v e => by
    have hi : i < acc.size := by
      have := (List.getElem?_eq_some_iff.mp e).1
      rw [List.length_map] at this
      rw [← Array.length_toList]
      omega
    rw [← hxz, List.getElem?_map] at e
    obtain ⟨x, ex, rfl⟩ := Option.map_eq_some_iff.mp e
    obtain ⟨u, eu, ru⟩ := rel_at rel ex
    obtain ⟨hi2, e2⟩ := hacc.2 i acc[i] (Array.getElem?_eq_getElem hi)
    refine ⟨acc[i], by rw [Array.getElem?_toList]; exact Array.getElem?_eq_getElem hi, ?_⟩
    have e3 := entry_at h4 i
    rw [eu, Array.getElem?_eq_getElem hi2] at e3
    rw [e2, Option.some.inj e3]
    show Value.ref u.2.1 = Value.ref x.2.1
    rw [ru.2.1]
  refine wpAny_bind (wpAny_newList (wpAny_bind (wpAny_holding (wpAny_call_entry slot_list_sort ⟨_, Heap.get?_push_size _ rfl, rfl⟩ entry_list_sort (wpAny_mono (g h' tk acc hkeep rv) (fun f s' hf => ?_) fun _ _ e => e.elim) (args_list_sort _)))) (by rw [hal]; omega))
  obtain ⟨rfl, hq⟩ := hf
  exact ⟨_, rfl, wpAny_pure ⟨_, rfl, hq⟩⟩
end
end DL
namespace DL
open PySem PySem.Spec PyProof.Rows L2
/-! ### dicts over data -/
def keyD : Key → D
  | .inl i => .int i
  | .inr x => .str x
def hasK (kvs : List (Key × D)) (k : Key) : Bool := kvs.any fun p => decide (p.1 = k)
def hasN (kvs : List (D × D)) (d : D) : Bool := kvs.any fun p => decide (p.1.nk = d.nk)
def stN (kvs : List (D × D)) (d v : D) : List (D × D) := if hasN kvs d then kvs.map (fun p => if p.1.nk = d.nk then (p.1, v) else p) else kvs ++ [(d, v)]
/-- keys as they may be -/
def keyB (d : D) : Bool := D.nkOk 8 d && (match d with | .tup _ => true | _ => false)
mutual
theorem nkOk_ok : ∀ (n : Nat) (d : D), D.nkOk n d = true → D.ok n d = true
  | n + 1, .tup ds, h => nkOk_oks n ds h
  | 0, .tup _, h => by cases h
  | 0, .non, _ => rfl
  | 0, .bl _, _ => rfl
  | 0, .int _, _ => rfl
  | 0, .str _, _ => rfl
  | _ + 1, .non, _ => rfl
  | _ + 1, .bl _, _ => rfl
  | _ + 1, .int _, _ => rfl
  | _ + 1, .str _, _ => rfl
theorem nkOk_oks : ∀ (n : Nat) (ds : List D), D.nkOkAll n ds = true → D.okAll n ds = true
  | _, [], _ => by
    rw [D.okAll]
  | n, d :: ds, h => by
    rw [D.nkOkAll] at h
    obtain ⟨h1, h2⟩ := Bool.and_eq_true_iff.mp h
    rw [D.okAll, nkOk_ok n d h1, nkOk_oks n ds h2]
    rfl
end
theorem any_keys {α β γ : Type} (f : γ → Bool) {g : α → γ} {g' : β → γ} {xs : List α} {ys : List β} (h : xs.map g = ys.map g') : (xs.any fun x => f (g x)) = ys.any fun y => f (g' y) := by
  have := congrArg (fun l => l.any f) h
  simpa [List.any_map, Function.comp_def] using this
section
variable {I : Type} {F : I → Cx} {W : World0} {K : PySem.W.Frag} {mg : Str → Option Value} {N : List Str} {j : Nat} {ρ : Env} {R : Rs} {Φ : Φ1} {a b e o i : Expr} {pos p p2 pos' : Pos}
/-! {} -/
theorem de_dict0 (h : Φ (.own R.length) (R ++ [.dic (.k [])])) : DE F K (.Dict [] [] pos) ρ R Φ := DE.of (t := tDNewK) (fun _ => pe_dnewK) fun H0 ι σ H Q s r f p hp => by
  obtain ⟨S1, s1, e1⟩ := s.placeD (o := .dK []) (δ := .k []) hp ⟨[], rfl, rfl, .nil⟩
  exact f _ _ _ _ _ _ h s1 S1 (.own e1)
/-! x in d, x not in d -/
def rInK (f : Bool → Bool) : R2 := fun x y H Q => ∃ a o, y = .ref a ∧ DGet H a x o ∧ Q (.bl (f o.isSome)) H
theorem op_inK {X : Cx} (hu : X.A.units + 200 < cLine) : OpR X (compareOp .In) (rInK id) := by
  intro pins s σ H x y v u Q I rx ry h
  obtain ⟨a, ov, rfl, g, q⟩ := h
  obtain rfl : u = Value.ref a := ry
  exact d_in (by omega) I g rx fun s3 I3 => ⟨.bl ov.isSome, H, I3, rfl, q⟩
theorem op_notInK {X : Cx} (hu : X.A.units + 200 < cLine) : OpR X (compareOp .NotIn) (rInK Bool.not) := by
  intro pins s σ H x y v u Q I rx ry h
  obtain ⟨a, ov, rfl, g, q⟩ := h
  obtain rfl : u = Value.ref a := ry
  exact d_notIn (by omega) I g rx fun s3 I3 => ⟨.bl (!ov.isSome), H, I3, rfl, q⟩
theorem od_inK {f : Bool → Bool} {k : Nat} {kvs : List (Key × D)} {key : Key} (hk : R[k]? = some (.dic (.k kvs))) (h : Φ (.bl (f (hasK kvs key))) R) : OD K (rInK f) (keyD key) (.own k) R Φ := fun H0 ι H Q v w s rv rw f' => by
  cases rw with
  | @own _ a ha =>
    obtain ⟨_, ob, ho, xs, rfl, e1, _⟩ := s.at_ k a _ ha hk
    have hv : v = kV key := by cases key <;> (cases rv; rfl)
    subst hv
    refine ⟨a, _, rfl, DGet.k (k := key) ho, ?_⟩
    have := valV_any key xs
    rw [← this, any_keys (fun z => decide (z = key)) e1]
    exact f'.now s h (.bl _)
theorem e_inK (Fm : Fam F K mg N) (h : DE F K a ρ R fun x R1 => DE F K b ρ R1 fun y R2 => ∃ k kvs key, x = keyD key ∧ y = .own k ∧ R2[k]? = some (.dic (.k kvs)) ∧ Φ (.bl (hasK kvs key)) R2) (hm : behindInMarks .In b = false) : DE F K (.Compare a [.In] [b] pos) ρ R Φ :=
  de_cmp (fun i => op_inK (Fm.un i)) hm (h.imp fun x R1 h1 => h1.imp fun y R2 ⟨k, kvs, key, e1, e2, e3, hp⟩ => by subst e1 e2; exact od_inK (f := id) e3 hp)
theorem t_notInK {ΦT : Bool → Rs → Prop} (Fm : Fam F K mg N) (h : DE F K a ρ R fun x R1 => DE F K b ρ R1 fun y R2 => ∃ k kvs key, x = keyD key ∧ y = .own k ∧ R2[k]? = some (.dic (.k kvs)) ∧ ΦT (!hasK kvs key) R2) (hm : behindInMarks .NotIn b = false) : DT F K (.Compare a [.NotIn] [b] pos) ρ R ΦT :=
  dt_cmp (fun i => op_notInK (Fm.un i)) hm (h.imp fun x R1 h1 => h1.imp fun y R2 ⟨k, kvs, key, e1, e2, e3, hp⟩ => by subst e1 e2; exact od_inK (f := Bool.not) e3 ⟨_, rfl, hp⟩)
/-! d[k] = v, k new -/
theorem ds_dputK {E : DEnds} (Fm : Fam F K mg N) (h : DE F K e ρ R fun v R1 => DE F K o ρ R1 fun x R2 => DE F K i ρ R2 fun y R3 => ∃ k kvs key, x = .own k ∧ R3[k]? = some (.dic (.k kvs)) ∧ y = keyD key ∧ hasK kvs key = false ∧ kvs.length < sizeLine ∧ E.nx ρ (R3.set k (.dic (.k (kvs ++ [(key, v)])))))
    (hs : ∀ q, swapsWith e (some (.Subscript o i pos')) pos.line (F q).env = pure false := by intro _; rfl) : DS F K (.Assign [.Subscript o i pos'] e pos) ρ R E :=
  DS.of (t := sDPut (UE F o) (UE F i) (UE F e)) (fun q => ps_dput (by have := Fm.un q; omega) (pe_u q) (pe_u q) (pe_u q) (hs q)) fun H0 ι σ H D s r f =>
    h H0 ι σ H _ s r fun v R1 A B v' C h1 s1 S1 rv => h1 A B σ C _ S1 (r.step s1) fun x R2 A2 B2 x' C2 h2 s2 S2 rx => h2 A2 B2 σ C2 _ S2 ((r.step s1).step s2) fun y R3 A3 B3 y' C3 ⟨k, kvs, key, e1, e2, e3, e4, e5, hp⟩ s3 S3 ry => by
      subst e1 e3
      have rx := rx.step s3
      have rv := (rv.step s2).step s3
      cases rx with
      | @own _ q ha =>
        obtain ⟨_, ob, ho, xs, rfl, m1, m2⟩ := S3.at_ k q _ ha e2
        have hv : y' = kV key := by cases key <;> (cases ry; rfl)
        subst hv
        have hl : xs.length = kvs.length := by simpa using congrArg List.length m1
        have hnone : valV xs key = none := by
          have z := valV_any key xs
          rw [any_keys (fun z => decide (z = key)) m1] at z
          have e4' : (kvs.any fun p => decide (p.1 = key)) = false := e4
          rw [e4'] at z
          cases q2 : valV xs key with
          | none => rfl
          | some w => rw [q2] at z; cases z
        have hD : DicIs K A3 B3 q (.dK (putK xs key v')) (.k (kvs ++ [(key, v)])) := by
          rw [putK_new v' hnone]
          refine ⟨_, rfl, by simp [m1], ?_⟩
          rw [List.map_append, List.map_append]
          exact m2.append (.cons rv .nil)
        obtain ⟨S4, s4⟩ := S3.writeD ha e2 hD
        refine ⟨q, _, rfl, DPut.k (k := key) ho (by omega), ?_⟩
        exact f.nx _ _ _ _ _ _ hp (((s1.trans s2).trans s3).trans s4) S4 ((((r.step s1).step s2).step s3).step s4)
/-! ### dicts whose keys are tuples -/
def keysB (kvs : List (D × D)) : Bool := kvs.all fun p => keyB p.1
theorem keyB_tup {d : D} (h : keyB d = true) : ∃ ds, d = .tup ds ∧ D.nkOk 8 d = true ∧ D.ok 8 d = true := by
  unfold keyB at h
  obtain ⟨h1, h2⟩ := Bool.and_eq_true_iff.mp h
  cases d with
  | tup ds => exact ⟨ds, rfl, h1, nkOk_ok 8 _ h1⟩
  | _ => cases h2
theorem keys_n {H0 : Hp} {ι : List Addr} : ∀ {xs : List XN} {kvs : List (D × D)}, xs.map (·.1) = kvs.map (fun p => p.1.nk) → RpAll K H0 ι (xs.map fun x => V.ref x.2.1) (kvs.map (·.1)) → keysB kvs = true → KeysN K H0 xs
  | [], _, _, _, _ => fun _ m => nomatch m
  | x :: xs, [], h, _, _ => by simp at h
  | x :: xs, q :: kvs, h, r, hb => by
    simp only [List.map_cons, List.cons.injEq] at h
    unfold keysB at hb
    rw [List.all_cons] at hb
    obtain ⟨b1, b2⟩ := Bool.and_eq_true_iff.mp hb
    obtain ⟨ds, _, g1, g2⟩ := keyB_tup b1
    cases r with
    | cons r1 r2 =>
      intro y hy
      rcases List.mem_cons.mp hy with e | hy
      · subst e
        exact ⟨q.1.py, nkOk_py 8 _ g1, by rw [← nk_py, h.1], r1.dp g2⟩
      · exact keys_n h.2 r2 b2 y hy
end
end DL
namespace DL
open PySem PySem.Spec PyProof.Rows L2
section
variable {I : Type} {F : I → Cx} {W : World0} {N : List Str} {j : Nat} {ρ : Env} {R : Rs} {Φ : Φ1} {a b e o i k v : Expr} {pos p p2 pos' : Pos}
def sNPutW (W : World0) (td ty tv : TE) : TS := fun D σ H => tv σ H fun v H1 => td σ H1 fun x H2 => ty σ H2 fun y H3 => ∃ a b xs d, x = .ref a ∧ H3 a = some (.ext (RawN W.P W.w a xs)) ∧ KeysN W.K H3 xs ∧ y = .ref b ∧ Dp W.K H3 (.ref b) d ∧ nkG 8 d = true ∧ xs.length < sizeLine ∧
  D.nx σ (upd H3 a (.ext (RawN W.P W.w a (putN xs (nkP d) b v))))
theorem sNPut_W (Fm : FamW F W N j) (q : I) (td ty tv : TE) : sNPut (F q) td ty tv = sNPutW W td ty tv := by
  unfold sNPut sNPutW
  rw [Fm.P q, Fm.w q, Fm.K q]
theorem mem_map_get {α β : Type} {f : α → β} : ∀ {xs : List α} {b : β}, b ∈ xs.map f → ∃ x ∈ xs, f x = b := fun h => List.mem_map.mp h
theorem keys_put {xs : List XN} {kvs : List (D × D)} {d : D} {b : Addr} {v : V} {dv : D} (h : xs.map (·.1) = kvs.map (fun p => p.1.nk)) : (putN xs d.nk b v).map (·.1) = (stN kvs d dv).map (fun p => p.1.nk) := by
  have e : (xs.any fun x => decide (x.1 = d.nk)) = hasN kvs d := any_keys (fun z => decide (z = d.nk)) h
  unfold putN stN
  rw [e]
  cases hasN kvs d with
  | true =>
    simp only [if_true, List.map_map]
    have h1 : ((fun (x : XN) => x.1) ∘ fun x => if x.1 = d.nk then (x.1, x.2.1, v) else x) = fun x => x.1 := by
      funext x
      by_cases q : x.1 = d.nk <;> simp [q]
    have h2 : ((fun (p : D × D) => p.1.nk) ∘ fun p => if p.1.nk = d.nk then (p.1, dv) else p) = fun p => p.1.nk := by
      funext x
      by_cases q : x.1.nk = d.nk <;> simp [q]
    rw [h1, h2, h]
  | false => simp [h]
theorem refs_put {K : PySem.W.Frag} {H : Hp} {ι : List Addr} {d dv : D} {b : Addr} {v : V} {xs : List XN} {kvs : List (D × D)} (h : xs.map (·.1) = kvs.map (fun p => p.1.nk)) (r1 : RpAll K H ι (xs.map fun x => V.ref x.2.1) (kvs.map (·.1))) (r2 : RpAll K H ι (xs.map (·.2.2)) (kvs.map (·.2)))
    (rb : Rp K H ι (.ref b) d) (rv : Rp K H ι v dv) : RpAll K H ι ((putN xs d.nk b v).map fun x => V.ref x.2.1) ((stN kvs d dv).map (·.1)) ∧ RpAll K H ι ((putN xs d.nk b v).map (·.2.2)) ((stN kvs d dv).map (·.2)) := by
  have e : (xs.any fun x => decide (x.1 = d.nk)) = hasN kvs d := any_keys (fun z => decide (z = d.nk)) h
  unfold putN stN
  rw [e]
  cases hasN kvs d with
  | true =>
    simp only [if_true]
    have : ∀ {xs : List XN} {kvs : List (D × D)}, xs.map (·.1) = kvs.map (fun p => p.1.nk) → RpAll K H ι (xs.map fun x => V.ref x.2.1) (kvs.map (·.1)) → RpAll K H ι (xs.map (·.2.2)) (kvs.map (·.2)) →
        RpAll K H ι ((xs.map fun x => if x.1 = d.nk then (x.1, x.2.1, v) else x).map fun x => V.ref x.2.1) ((kvs.map fun p => if p.1.nk = d.nk then (p.1, dv) else p).map (·.1)) ∧ RpAll K H ι ((xs.map fun x => if x.1 = d.nk then (x.1, x.2.1, v) else x).map (·.2.2)) ((kvs.map fun p => if p.1.nk = d.nk then (p.1, dv) else p).map (·.2)) := by
      intro xs
      induction xs with
      | nil =>
        intro kvs h r1 r2
        cases kvs with
        | nil => exact ⟨.nil, .nil⟩
        | cons q kvs => simp at h
      | cons x xs ih =>
        intro kvs h r1 r2
        cases kvs with
        | nil => simp at h
        | cons q kvs =>
          simp only [List.map_cons, List.cons.injEq] at h
          simp only [List.map_cons] at r1 r2
          cases r1 with
          | cons a1 a2 =>
            cases r2 with
            | cons b1 b2 =>
              obtain ⟨c1, c2⟩ := ih h.2 a2 b2
              simp only [List.map_cons]
              by_cases z : q.1.nk = d.nk
              · rw [if_pos (h.1.trans z), if_pos z]
                exact ⟨.cons a1 c1, .cons rv c2⟩
              · rw [if_neg (fun y => z (h.1.symm.trans y)), if_neg z]
                exact ⟨.cons a1 c1, .cons b1 c2⟩
    exact this h r1 r2
  | false =>
    simp only [Bool.false_eq_true, if_false, List.map_append]
    exact ⟨r1.append (.cons rb .nil), r2.append (.cons rv .nil)⟩
/-! d[k] = v -/
theorem ds_dputN {E : DEnds} (Fm : FamW F W N j) (h : DE F W.K e ρ R fun v R1 => DE F W.K o ρ R1 fun x R2 => DE F W.K i ρ R2 fun y R3 => ∃ k kvs, x = .own k ∧ R3[k]? = some (.dic (.n W.P W.w kvs)) ∧ keysB kvs = true ∧ keyB y = true ∧ kvs.length < sizeLine ∧ E.nx ρ (R3.set k (.dic (.n W.P W.w (stN kvs y v)))))
    (hs : ∀ q, swapsWith e (some (.Subscript o i pos')) pos.line (F q).env = pure false := by intro _; rfl) : DS F W.K (.Assign [.Subscript o i pos'] e pos) ρ R E :=
  DS.of (t := sNPutW W (UE F o) (UE F i) (UE F e)) (fun q => sNPut_W Fm q _ _ _ ▸ ps_nput (by have := Fm.un q; omega) (pe_u q) (pe_u q) (pe_u q) (hs q)) fun H0 ι σ H D s r f =>
    h H0 ι σ H _ s r fun v R1 A B v' C h1 s1 S1 rv => h1 A B σ C _ S1 (r.step s1) fun x R2 A2 B2 x' C2 h2 s2 S2 rx => h2 A2 B2 σ C2 _ S2 ((r.step s1).step s2) fun y R3 A3 B3 y' C3 ⟨k, kvs, e1, e2, e3, e4, e5, hp⟩ s3 S3 ry => by
      subst e1
      have rx := rx.step s3
      have rv := (rv.step s2).step s3
      obtain ⟨ds, rfl, g1, g2⟩ := keyB_tup e4
      cases rx with
      | @own _ q ha =>
        obtain ⟨_, ob, ho, xs, rfl, m1, m2, m3⟩ := S3.at_ k q _ ha e2
        have hl : xs.length = kvs.length := by simpa using congrArg List.length m1
        have hd := (ry.up S3).dp g2
        cases ry with
        | @tup b zs _ hb hz =>
          obtain ⟨n1, n2⟩ := refs_put (d := .tup ds) (dv := v) (b := b) (v := v') m1 m2 m3 (.tup hb hz) rv
          have hD : DicIs W.K A3 B3 q (.ext (RawN W.P W.w q (putN xs (DL.D.tup ds).nk b v'))) (.n W.P W.w (stN kvs (.tup ds) v)) := ⟨_, rfl, keys_put m1, n1, n2⟩
          obtain ⟨S4, s4⟩ := S3.writeD ha e2 hD
          refine ⟨q, b, xs, (DL.D.tup ds).py, rfl, ho, keys_n m1 (m2.up S3) e3, rfl, hd, nkOk_py 8 _ g1, by omega, ?_⟩
          rw [← nk_py]
          exact f.nx _ _ _ _ _ _ hp (((s1.trans s2).trans s3).trans s4) S4 ((((r.step s1).step s2).step s3).step s4)
/-! {k: v} -/
def tNDispW (W : World0) (tk tv : TE) : TE := fun σ H Q => ∀ p, H p = none → tk σ (upd H p (.ext (RawN W.P W.w p []))) fun y H1 => tv σ H1 fun v H2 => ∃ b d, y = .ref b ∧ H2 p = some (.ext (RawN W.P W.w p [])) ∧ Dp W.K H2 (.ref b) d ∧ nkG 8 d = true ∧
  Q (.ref p) (upd H2 p (.ext (RawN W.P W.w p [(nkP d, b, v)])))
theorem tNDisp_W (Fm : FamW F W N j) (q : I) (tk tv : TE) : tNDisp (F q) tk tv = tNDispW W tk tv := by
  unfold tNDisp tNDispW
  rw [Fm.P q, Fm.w q, Fm.K q]
theorem de_dictN (Fm : FamW F W N j) (h : DE F W.K k ρ (R ++ [.dic (.n W.P W.w [])]) fun y R1 => DE F W.K v ρ R1 fun dv R2 => R2[R.length]? = some (.dic (.n W.P W.w [])) ∧ keyB y = true ∧ Φ (.own R.length) (R2.set R.length (.dic (.n W.P W.w [(y, dv)])))) : DE F W.K (.Dict [some k] [v] pos) ρ R Φ :=
  DE.of (t := tNDispW W (UE F k) (UE F v)) (fun q => tNDisp_W Fm q _ _ ▸ pe_ndisp (by have := Fm.un q; omega) (pe_u q) (pe_u q)) fun H0 ι σ H Q s r f p hp => by
    obtain ⟨S0, s0, e0⟩ := s.placeD (o := .ext (RawN W.P W.w p [])) (δ := .n W.P W.w []) hp ⟨[], rfl, rfl, .nil, .nil⟩
    refine h _ _ σ _ _ S0 (r.step s0) fun y R1 A B y' C h1 s1 S1 ry => h1 A B σ C _ S1 ((r.step s0).step s1) fun dv R2 A2 B2 v' C2 ⟨h2, h3, hp2⟩ s2 S2 rv => ?_
    obtain ⟨ds, rfl, g1, g2⟩ := keyB_tup h3
    have ry := ry.step s2
    have ha : B2[R.length]? = some p := s2.pre _ _ (s1.pre _ _ e0)
    obtain ⟨f0, ob, ho, xs, rfl, m1, m2, m3⟩ := S2.at_ _ p _ ha h2
    have hx : xs = [] := by simpa using m1
    subst hx
    have hd := (ry.up S2).dp g2
    cases ry with
    | @tup b zs _ hb hz =>
      obtain ⟨S4, s4⟩ := S2.writeD (o := .ext (RawN W.P W.w p [((DL.D.tup ds).nk, b, v')])) (δ := .n W.P W.w [(.tup ds, dv)]) ha h2 ⟨[((DL.D.tup ds).nk, b, v')], rfl, rfl, .cons (.tup hb hz) .nil, .cons rv .nil⟩
      refine ⟨b, (DL.D.tup ds).py, rfl, ho, hd, nkOk_py 8 _ g1, ?_⟩
      rw [← nk_py]
      exact f _ _ _ _ _ _ hp2 (((s0.trans s1).trans s2).trans s4) S4 (.own (s4.pre _ _ ha))
end
end DL
namespace DL
open PySem PySem.Spec PyProof.Rows L2
section
variable {I : Type} {F : I → Cx} {W : World0} {N : List Str} {j : Nat} {ρ : Env} {R : Rs} {Φ : Φ1} {a b e o i k v : Expr} {pos p p2 pos' : Pos}
def rSortW (W : World0) : List V → Hp → VK → Prop := fun vs H Q => ∃ (a : Addr) (xs : List XN) (zs : List (V × PyData)), vs = [V.ref a] ∧ H a = some (.ext (RawN W.P W.w a xs)) ∧ KeysN W.K H xs ∧ (xs.map fun x => V.ref x.2.1) = zs.map (·.1) ∧ (∀ z ∈ zs, Dp W.K H z.1 z.2) ∧ Sb (zs.map (·.2)) ∧ (∀ z ∈ zs, z.2.depth ≤ 60) ∧
  ∀ p, H p = none → Q (.ref p) (upd H p (.lst ((zs.mergeSort fun x y => leT x.2 y.2).map (·.1))))
theorem rSort_W (Fm : FamW F W N j) (q : I) : rSortN (F q) = rSortW W := by
  unfold rSortN rSortW
  rw [Fm.P q, Fm.w q, Fm.K q]
theorem sortedN_i (Fm : FamW F W N j) (q : I) : CallR (F q) (.builtin "sorted") (rSortW W) := rSort_W Fm q ▸ cr_sortN (Fm.un q) (Fm.calm q)
theorem cd_sortedN {k : Nat} {kvs : List (D × D)} (hk : R[k]? = some (.dic (.n W.P W.w kvs))) (hb : keysB kvs = true) (S : Sb (D.pyAll (kvs.map (·.1)))) (h : Φ (.own R.length) (R ++ [.lst (sortD (kvs.map (·.1)))])) : CD W.K (rSortW W) [.own k] R Φ := fun H0 ι H Q vs s rs f => by
  cases rs with
  | cons rv rr =>
    cases rr
    cases rv with
    | @own _ a ha =>
      obtain ⟨_, ob, ho, ws, rfl, m1, m2, m3⟩ := s.at_ k a _ ha hk
      obtain ⟨z1, z2, z3⟩ := rpAll_zip m2
      have hok : ∀ d ∈ kvs.map (·.1), D.ok 8 d = true := fun d hd => by
        obtain ⟨q, hq, rfl⟩ := List.mem_map.mp hd
        obtain ⟨ds, _, _, g2⟩ := keyB_tup (List.all_eq_true.mp hb q hq)
        exact g2
      generalize hds : kvs.map (·.1) = ds at *
      generalize hxs : (ws.map fun x => V.ref x.2.1) = xs at *
      have hin : ∀ z ∈ xs.zip ds, z.2 ∈ ds := fun z hz => by
        have : z.2 ∈ (xs.zip ds).map (·.2) := List.mem_map.mpr ⟨z, hz, rfl⟩
        rwa [z3] at this
      have e1 : ((xs.zip ds).map fun z => (z.1, z.2.py)).map (·.1) = xs := by rw [List.map_map]; exact z2
      have e2 : ((xs.zip ds).map fun z => (z.1, z.2.py)).map (·.2) = D.pyAll ds := by
        rw [List.map_map, py_map]
        have : ((xs.zip ds).map (·.2)).map D.py = ds.map D.py := by rw [z3]
        rw [List.map_map] at this
        exact this
      have hkeys : KeysN W.K H ws := by
        subst hxs hds
        exact keys_n m1 (m2.up s) hb
      refine ⟨a, ws, (xs.zip ds).map fun z => (z.1, z.2.py), rfl, ho, hkeys, by rw [e1, hxs], fun z hz => ?_, by rw [e2]; exact S, fun z hz => ?_, fun p hp => ?_⟩
      · obtain ⟨y, hy, rfl⟩ := List.mem_map.mp hz
        have o := hok y.2 (hin y hy)
        have r := (z1 y hy).see s
        rw [see_ok _ o] at r
        exact r.dp o
      · obtain ⟨y, hy, rfl⟩ := List.mem_map.mp hz
        have := (D.ok_plain 8 _ (hok y.2 (hin y hy))).2
        show y.2.py.depth ≤ 60
        omega
      · have key : (((xs.zip ds).map fun z => (z.1, z.2.py)).mergeSort fun x y => leT x.2 y.2).map (·.1) = ((xs.zip ds).mergeSort fun x y => D.le x.2 y.2).map (·.1) := by
          have q := List.map_mergeSort (r := fun x y : V × D => D.le x.2 y.2) (s := fun x y : V × PyData => leT x.2 y.2) (f := fun z : V × D => (z.1, z.2.py)) (l := xs.zip ds) (fun a _ b _ => rfl)
          rw [← q, List.map_map]
          rfl
        have key2 : ((xs.zip ds).mergeSort fun x y => D.le x.2 y.2).map (·.2) = sortD ds := by
          rw [List.map_mergeSort (r := fun x y : V × D => D.le x.2 y.2) (s := D.le) (fun a _ b _ => rfl), z3]
          rfl
        rw [key]
        have rr : RpAll W.K H0 ι (((xs.zip ds).mergeSort fun x y => D.le x.2 y.2).map (·.1)) (sortD ds) := by
          rw [← key2]
          exact rpAll_of fun z hz => z1 z ((List.mergeSort_perm _ _).mem_iff.mp hz)
        obtain ⟨S2, s2, e3⟩ := s.place hp rr
        exact f _ _ _ _ _ _ h s2 S2 (.own e3)
theorem e_sortedN (B : Bl W.mg) (Fm : FamW F W N j) (hg : ∀ i, Gl (F i) "sorted") (h : DE F W.K e ρ R fun x R1 => ∃ k kvs, x = .own k ∧ R1[k]? = some (.dic (.n W.P W.w kvs)) ∧ keysB kvs = true ∧ Sb (D.pyAll (kvs.map (·.1))) ∧ Φ (.own R1.length) (R1 ++ [.lst (sortD (kvs.map (·.1)))]))
    (hst : ∀ i, starEach [e] (F i).env = [(false, eval e (F i).env)] := by intro _; rfl) : DE F W.K (.Call (.Name "sorted" p) [e] [] pos) ρ R Φ :=
  de_blf Fm.toFam hg B.sorted (by decide +kernel) (sortedN_i Fm) (da_cons (h.imp fun x R1 ⟨k, kvs, e1, e2, e3, e4, hp⟩ => da_nil (by subst e1; exact cd_sortedN e2 e3 e4 hp)) hst) hst
end
end DL
namespace DL
open PySem PySem.Spec PyProof.Rows L2
section
variable {I : Type} {F : I → Cx} {W : World0} {K : PySem.W.Frag} {mg : Str → Option Value} {N : List Str} {j : Nat} {ρ : Env} {R : Rs} {Φ : Φ1} {ΦT : Bool → Rs → Prop} {a b c e : Expr} {pos p p2 apos : Pos}
/-! methods of texts without arguments -/
def rStr0 (g : Str → Bool) : V → List V → Hp → VK → Prop := fun x xs H Q => ∃ a, x = .str a ∧ xs = [] ∧ True ∧ Q (.bl (g a)) H
theorem de_mS0 {name id : String} {g : Str → Bool} (Fm : Fam F K mg N) (slot : Slot "str" name id) (hty : typeOf (.builtin id) = pure (.type "method_descriptor")) (hm : ∀ i, MtR (F i) id (rStr0 g))
    (h : DE F K a ρ R fun x R1 => ∃ z, x = .str z ∧ Φ (.bl (g z)) R1)
    (hbase : ∀ i, attributeBase a name (F i).env (eval a (F i).env) = eval a (F i).env := by intro _; rfl) (hline : (apos.endLine == pos.line) = true := by rfl) :
    DE F K (.Call (.Attribute a name apos) [] [] pos) ρ R Φ :=
  DE.of (t := tBM0 K "str" (rStr0 g) (UE F a)) (fun i => Fm.K i ▸ pe_bm0 PySem.F.plainAttrs_str slot hty (hm i) (pe_u i) (hbase := hbase i) (hline := hline)) fun H0 ι σ H Q s r f => h H0 ι σ H _ s r fun d R1 A B v C hb s1 S1 r1 => by
    obtain ⟨z, rfl, hp⟩ := hb
    cases r1
    exact ⟨rfl, z, rfl, rfl, trivial, (f.step s1).now S1 hp (.bl _)⟩
theorem e_islower (Fm : Fam F K mg N) (h : DE F K a ρ R fun x R1 => ∃ z, x = .str z ∧ Φ (.bl (Txt.islower z)) R1)
    (hbase : ∀ i, attributeBase a "islower" (F i).env (eval a (F i).env) = eval a (F i).env := by intro _; rfl) (hline : (apos.endLine == pos.line) = true := by rfl) : DE F K (.Call (.Attribute a "islower" apos) [] [] pos) ρ R Φ :=
  de_mS0 Fm PySem.F.slot_str_islower PySem.F.type_str_islower (fun _ => mt_islower) h hbase hline
theorem e_isalpha (Fm : Fam F K mg N) (h : DE F K a ρ R fun x R1 => ∃ z, x = .str z ∧ Φ (.bl (Txt.isalpha z)) R1)
    (hbase : ∀ i, attributeBase a "isalpha" (F i).env (eval a (F i).env) = eval a (F i).env := by intro _; rfl) (hline : (apos.endLine == pos.line) = true := by rfl) : DE F K (.Call (.Attribute a "isalpha" apos) [] [] pos) ρ R Φ :=
  de_mS0 Fm PySem.F.slot_str_isalpha PySem.F.type_str_isalpha (fun _ => mt_isalpha) h hbase hline
theorem e_isascii (Fm : Fam F K mg N) (h : DE F K a ρ R fun x R1 => ∃ z, x = .str z ∧ Φ (.bl (Txt.isascii z)) R1)
    (hbase : ∀ i, attributeBase a "isascii" (F i).env (eval a (F i).env) = eval a (F i).env := by intro _; rfl) (hline : (apos.endLine == pos.line) = true := by rfl) : DE F K (.Call (.Attribute a "isascii" apos) [] [] pos) ρ R Φ :=
  de_mS0 Fm PySem.F.slot_str_isascii PySem.F.type_str_isascii (fun _ => mt_isascii) h hbase hline
/-! i <= j < k -/
theorem t_leLt (h : DE F K a ρ R fun x R1 => DE F K b ρ R1 fun y R2 => ∃ i j : Int, x = .int i ∧ y = .int j ∧ i ≤ j ∧ DE F K c ρ R2 fun w R3 => ∃ k : Int, w = .int k ∧ ΦT (decide (j < k)) R3)
    (hm : lastMarks [.LtE, .Lt] [b, c] = false := by with_unfolding_all rfl) : DT F K (.Compare a [.LtE, .Lt] [b, c] pos) ρ R ΦT := by
  refine dt_chain (fun _ => op_le) (fun _ => op_lt) (h.imp fun x R1 h1 => h1.imp fun y R2 ⟨i, j, e1, e2, e3, h2⟩ => ?_) hm
  subst e1 e2
  refine od_I0 (fun _ _ => .bl _) ⟨_, rfl, fun _ => h2.imp fun z R3 ⟨k, e4, hp⟩ => ?_, fun e => by rw [decide_eq_true e3] at e; cases e⟩
  subst e4
  exact od_I0 (fun _ _ => .bl _) ⟨_, rfl, hp⟩
/-! an int is True, is False: it never is -/
def rIsIB : R2 := fun x y H Q => ∃ (i : Int) (k : Bool), x = .int i ∧ y = .bl k ∧ Q (.bl false) H
theorem op_isIB {X : Cx} : OpR X (compareOp .Is) rIsIB := by
  intro pins s σ H x y v u Q I rx ry h
  obtain ⟨i, k, rfl, rfl, q⟩ := h
  obtain ⟨t, rfl⟩ := rx
  cases (show u = Value.bool k from ry)
  exact wpAny_is_other rfl (fun z => nomatch z) ⟨.bl false, H, I, rfl, q⟩
theorem t_isIB {k : Bool} {j : Nat} (h : DE F K a ρ R fun x R1 => ∃ i, x = .int i ∧ ΦT false R1) : DT F K (.Compare a [.Is] [.Constant (.bool k) j p] pos) ρ R ΦT :=
  dt_cmp (fun _ => op_isIB) nb_is (h.imp fun x R1 ⟨i, e1, hp⟩ => de_bl (by
    subst e1
    intro H0 ι H Q v w s rv rw' f
    cases rv; cases rw'
    exact ⟨_, _, rfl, rfl, f.now s ⟨_, rfl, hp⟩ (.bl _)⟩))
/-! x not in a written dict with text keys -/
theorem de_notInG {x : Str} {d : Addr} {es : Array DictEntry} {n : Nat} (Fm : FamW F W N j) (hg : ∀ i, Gl (F i) x) (hm : W.mg x = some (.ref d)) (D : KDict W.K W.w d es n) (h : DE F W.K a ρ R fun y R1 => ∃ z r, y = .str z ∧ PySem.W.nsIn W.K d z = some r ∧ Φ (.bl (!r.isSome)) R1)
    (hb : behindInMarks .NotIn (.Name x p) = false := by with_unfolding_all rfl) (hd : (x == ("__debug__" : Str)) = false := by decide) : DE F W.K (.Compare a [.NotIn] [.Name x p] pos) ρ R Φ :=
  DE.of (t := tOp (fun x y H Q => ∃ (z : Str) (r : Option Value), x = .str z ∧ y = .ref d ∧ PySem.W.nsIn W.K d z = some r ∧ Q (.bl (!r.isSome)) H) (UE F a) (tC (.ref d)))
    (fun i => by
      have D' : KDict (F i).K (F i).w d es n := by rw [Fm.K i, Fm.w i]; exact D
      have o := op_notIn_kd D'
      rw [Fm.K i] at o
      exact pe_cmpR o (pe_u i) (pe_glob (hg i) (by rw [Fm.mg i]; exact hm) rfl hd) hb) fun H0 ι σ H Q s r f => h H0 ι σ H _ s r fun y R1 A B v C ⟨z, ro, e1, e2, hp⟩ s1 S1 r1 => by
    subst e1
    cases r1
    exact ⟨z, ro, rfl, rfl, e2, (f.step s1).now S1 hp (.bl _)⟩
end
/-! what a written dict holds -/
theorem dicW_ns {K : PySem.W.Frag} {P : Params} {d : Addr} {ks : List Str} (h : He.dicW K d = some (He.keysIn P ks)) {z : Str} (hz : ks.contains z = false) : PySem.W.nsIn K d z = some none := by
  unfold He.dicW at h
  split at h
  · rename_i c es n sl e
    split at h
    · have h2 := Option.some.inj h
      have key : ∀ (l : List DictEntry) (ks : List Str), l.map He.keyOf = He.keysIn P ks → ks.contains z = false → l.find? (·.key.isStr z) = none ∧ l.any (·.refKey) = false := by
        intro l
        induction l with
        | nil => intro ks _ _; exact ⟨rfl, rfl⟩
        | cons q l ih =>
          intro ks hk hz
          cases ks with
          | nil => cases hk
          | cons k ks =>
            have hk2 : He.keyOf q :: l.map He.keyOf = some (k, PyData.keyHash P k) :: He.keysIn P ks := hk
            injection hk2 with k1 k2
            have hz2 : ((z == k) || ks.contains z) = false := hz
            obtain ⟨z1, z2⟩ := Bool.or_eq_false_iff.mp hz2
            obtain ⟨i1, i2⟩ := ih ks k2 z2
            unfold He.keyOf at k1
            split at k1
            · rename_i x t qk
              have k3 := Option.some.inj k1
              injection k3 with k4 k5
              subst k4
              have f1 : q.key.isStr z = false := by
                rw [qk]
                show (x == z) = false
                rw [beq_eq_false_iff_ne] at z1 ⊢
                exact fun w => z1 w.symm
              have f2 : q.refKey = false := by
                obtain ⟨qh, qkey, qv⟩ := q
                cases qk
                rfl
              exact ⟨by rw [List.find?_cons, f1]; exact i1, by rw [List.any_cons, f2, i2]; rfl⟩
            · cases k1
      obtain ⟨i1, i2⟩ := key es.toList ks h2 hz
      unfold PySem.W.nsIn
      rw [e]
      simp only [i1, i2]
      rfl
    · cases h
  · cases h
end DL
namespace DL
open PySem PySem.Spec PyProof.Rows L2
section
variable {I : Type} {F : I → Cx} {W : World0} {K : PySem.W.Frag} {mg : Str → Option Value} {N : List Str} {j : Nat} {ρ : Env} {R : Rs} {Φ : Φ1} {ΦT : Bool → Rs → Prop} {a b c e e' : Expr} {pos p p1 p2 p3 p4 p5 p6 p7 p8 apos : Pos} {d : D}
theorem t_notRow {x1 x2 : Str} {n1 n2 : String} (B : Bl mg) (Fm : Fam F K mg N) (hg : ∀ i, Gl (F i) "isinstance") (g1 : ∀ i, Gl (F i) x1) (g2 : ∀ i, Gl (F i) x2) (m1 : mg x1 = none) (m2 : mg x2 = none) (v1 : bootBuiltins x1 = some (.type n1)) (v2 : bootBuiltins x2 = some (.type n2))
    (h : DE F K e ρ R fun x R1 => x = d ∧ R1 = R) (h' : DE F K e' ρ R fun x R1 => x = d ∧ R1 = R) (lv : Live R d) (hk : kitB d.tyN n1 = some true ∨ (kitB d.tyN n1 = some false ∧ kitB d.tyN n2 = some true)) (hp : ΦT false R)
    (hst : ∀ i, starEach [e, .Name x1 p2] (F i).env = [(false, eval e (F i).env), (false, eval (.Name x1 p2) (F i).env)] := by intro _; rfl) (hn1 : x1 ≠ "__name__" := by decide) (hd1 : (x1 == ("__debug__" : Str)) = false := by decide)
    (hst' : ∀ i, starEach [e', .Name x2 p6] (F i).env = [(false, eval e' (F i).env), (false, eval (.Name x2 p6) (F i).env)] := by intro _; rfl) (hn2 : x2 ≠ "__name__" := by decide) (hd2 : (x2 == ("__debug__" : Str)) = false := by decide) :
    DT F K (.BoolOp .And [.UnaryOp .Not (.Call (.Name "isinstance" p1) [e, .Name x1 p2] [] p3) p4, .UnaryOp .Not (.Call (.Name "isinstance" p5) [e', .Name x2 p6] [] p7) p8] pos) ρ R ΦT := by
  refine DW.dt (dw_and (dt_not (t_of (e_isi B Fm hg g1 m1 v1 (h.imp fun x R1 ⟨e1, e2⟩ => ?_) hst hn1 hd1))))
  subst e1 e2
  rcases hk with k1 | ⟨k1, k2⟩
  · refine ⟨lv, true, k1, true, rfl, ⟨fun z => absurd z (by decide), fun _ => hp⟩⟩
  · refine ⟨lv, false, k1, false, rfl, ⟨fun _ => dw_and1 (dt_not (t_of (e_isi B Fm hg g2 m2 v2 (h'.imp fun x R1 ⟨e1, e2⟩ => ?_) hst' hn2 hd2))), fun z => absurd z (by decide)⟩⟩
    subst e1 e2
    exact ⟨lv, true, k2, true, rfl, hp⟩
theorem kit_row {x : D} {ys : List D} (h : x = .tup ys ∨ x = .lst ys ∨ x = .rd ys) : (kitB x.tyN "list" = some true ∨ (kitB x.tyN "list" = some false ∧ kitB x.tyN "tuple" = some true)) ∧ (kitB x.tyN "tuple" = some true ∨ (kitB x.tyN "tuple" = some false ∧ kitB x.tyN "list" = some true)) := by
  rcases h with rfl | rfl | rfl
  · exact ⟨.inr ⟨rfl, rfl⟩, .inl rfl⟩
  · exact ⟨.inl rfl, .inr ⟨rfl, rfl⟩⟩
  · exact ⟨.inl rfl, .inr ⟨rfl, rfl⟩⟩
theorem kit_seq {x : D} {ys : List D} (h : Seq R x ys) : (kitB x.tyN "list" = some true ∨ (kitB x.tyN "list" = some false ∧ kitB x.tyN "tuple" = some true)) ∧ (kitB x.tyN "tuple" = some true ∨ (kitB x.tyN "tuple" = some false ∧ kitB x.tyN "list" = some true)) := by
  rcases h with (rfl | rfl | ⟨k, rfl, _⟩) | rfl
  · exact kit_row (.inr (.inl rfl))
  · exact kit_row (.inr (.inr rfl))
  · exact ⟨.inl rfl, .inr ⟨rfl, rfl⟩⟩
  · exact kit_row (.inl rfl)
end
end DL
set_option maxHeartbeats 0
namespace My
open PySem PySem.Spec PyProof.Rows L2
def topS (i : Nat) : Stmt := PySem.Challenge.pw_roadheld_k11_whole_controls_and_after.main.body.getD i (.Pass ⟨0, 0, 0, 0⟩)
abbrev s_is_row : Stmt := topS 5
abbrev s_is_integer : Stmt := topS 6
abbrev s_is_number : Stmt := topS 7
abbrev s_is_below : Stmt := topS 8
abbrev s_is_agents_text : Stmt := topS 9
abbrev s_as_known_layers : Stmt := topS 10
abbrev s_as_layers : Stmt := topS 11
abbrev s_rules_in : Stmt := topS 12
abbrev s_begins_with : Stmt := topS 13
abbrev s_checked_layers : Stmt := topS 20
abbrev s_known_rules : Stmt := topS 21
abbrev s_checked_rules : Stmt := topS 22
abbrev s_after : Stmt := topS 24
abbrev s_controls_of : Stmt := topS 25
abbrev s_controls : Stmt := topS 26
abbrev s_law_stream : Stmt := topS 28
abbrev s_law_draw : Stmt := topS 29
abbrev s_law_pick : Stmt := topS 30
abbrev s_law_mixed : Stmt := topS 31
abbrev s_law_each_once : Stmt := topS 32
abbrev s_law_loose : Stmt := topS 33
abbrev s_law_same : Stmt := topS 34
abbrev s_law_controls : Stmt := topS 35
abbrev s_law_after : Stmt := topS 36
abbrev s_law_spoilt : Stmt := topS 37
abbrev s_law_any_rules : Stmt := topS 38
abbrev s_law_climbing : Stmt := topS 39
abbrev s_law_drawn_rules : Stmt := topS 40
abbrev s_law_layers_in : Stmt := topS 41
abbrev s_law_right : Stmt := topS 42
abbrev s_law : Stmt := topS 43
abbrev s_BadLayers_init : Stmt := inClass (topS 16) 0
abbrev s_BadRules_init : Stmt := inClass (topS 17) 0
abbrev s_BadRule_init : Stmt := inClass (topS 18) 0
def fn : List He.DefD := [⟨("is_row", none), "is_row", "is_row", defArgs s_is_row, defBody s_is_row, defScope s_is_row, [], []⟩,
  ⟨("is_integer", none), "is_integer", "is_integer", defArgs s_is_integer, defBody s_is_integer, defScope s_is_integer, [], []⟩,
  ⟨("is_number", none), "is_number", "is_number", defArgs s_is_number, defBody s_is_number, defScope s_is_number, [], []⟩,
  ⟨("is_below", none), "is_below", "is_below", defArgs s_is_below, defBody s_is_below, defScope s_is_below, [], []⟩,
  ⟨("is_agents_text", none), "is_agents_text", "is_agents_text", defArgs s_is_agents_text, defBody s_is_agents_text, defScope s_is_agents_text, [], []⟩,
  ⟨("as_known_layers", none), "as_known_layers", "as_known_layers", defArgs s_as_known_layers, defBody s_as_known_layers, defScope s_as_known_layers, [], []⟩,
  ⟨("as_layers", none), "as_layers", "as_layers", defArgs s_as_layers, defBody s_as_layers, defScope s_as_layers, [], []⟩,
  ⟨("rules_in", none), "rules_in", "rules_in", defArgs s_rules_in, defBody s_rules_in, defScope s_rules_in, [], []⟩,
  ⟨("begins_with", none), "begins_with", "begins_with", defArgs s_begins_with, defBody s_begins_with, defScope s_begins_with, [], []⟩,
  ⟨("checked_layers", none), "checked_layers", "checked_layers", defArgs s_checked_layers, defBody s_checked_layers, defScope s_checked_layers, [], []⟩,
  ⟨("known_rules", none), "known_rules", "known_rules", defArgs s_known_rules, defBody s_known_rules, defScope s_known_rules, [], []⟩,
  ⟨("checked_rules", none), "checked_rules", "checked_rules", defArgs s_checked_rules, defBody s_checked_rules, defScope s_checked_rules, [], []⟩,
  ⟨("after", none), "after", "after", defArgs s_after, defBody s_after, defScope s_after, [], []⟩,
  ⟨("controls_of", none), "controls_of", "controls_of", defArgs s_controls_of, defBody s_controls_of, defScope s_controls_of, [], []⟩,
  ⟨("controls", none), "controls", "controls", defArgs s_controls, defBody s_controls, defScope s_controls, [], []⟩,
  ⟨("_law_stream", none), "_law_stream", "_law_stream", defArgs s_law_stream, defBody s_law_stream, defScope s_law_stream, [], []⟩,
  ⟨("_law_draw", none), "_law_draw", "_law_draw", defArgs s_law_draw, defBody s_law_draw, defScope s_law_draw, [], []⟩,
  ⟨("_law_pick", none), "_law_pick", "_law_pick", defArgs s_law_pick, defBody s_law_pick, defScope s_law_pick, [], []⟩,
  ⟨("_law_mixed", none), "_law_mixed", "_law_mixed", defArgs s_law_mixed, defBody s_law_mixed, defScope s_law_mixed, [], []⟩,
  ⟨("_law_each_once", none), "_law_each_once", "_law_each_once", defArgs s_law_each_once, defBody s_law_each_once, defScope s_law_each_once, [], []⟩,
  ⟨("_law_loose", none), "_law_loose", "_law_loose", defArgs s_law_loose, defBody s_law_loose, defScope s_law_loose, [], []⟩,
  ⟨("_law_same", none), "_law_same", "_law_same", defArgs s_law_same, defBody s_law_same, defScope s_law_same, [], []⟩,
  ⟨("_law_controls", none), "_law_controls", "_law_controls", defArgs s_law_controls, defBody s_law_controls, defScope s_law_controls, [], []⟩,
  ⟨("_law_after", none), "_law_after", "_law_after", defArgs s_law_after, defBody s_law_after, defScope s_law_after, [], []⟩,
  ⟨("_law_spoilt", none), "_law_spoilt", "_law_spoilt", defArgs s_law_spoilt, defBody s_law_spoilt, defScope s_law_spoilt, [], []⟩,
  ⟨("_law_any_rules", none), "_law_any_rules", "_law_any_rules", defArgs s_law_any_rules, defBody s_law_any_rules, defScope s_law_any_rules, [], []⟩,
  ⟨("_law_climbing", none), "_law_climbing", "_law_climbing", defArgs s_law_climbing, defBody s_law_climbing, defScope s_law_climbing, [], []⟩,
  ⟨("_law_drawn_rules", none), "_law_drawn_rules", "_law_drawn_rules", defArgs s_law_drawn_rules, defBody s_law_drawn_rules, defScope s_law_drawn_rules, [], []⟩,
  ⟨("_law_layers_in", none), "_law_layers_in", "_law_layers_in", defArgs s_law_layers_in, defBody s_law_layers_in, defScope s_law_layers_in, [], []⟩,
  ⟨("_law_right", none), "_law_right", "_law_right", defArgs s_law_right, defBody s_law_right, defScope s_law_right, [], []⟩,
  ⟨("law", none), "law", "law", defArgs s_law, defBody s_law, defScope s_law, [], []⟩,
  ⟨("BadLayers", some "__init__"), "__init__", "BadLayers.__init__", defArgs s_BadLayers_init, defBody s_BadLayers_init, defScope s_BadLayers_init, [], []⟩,
  ⟨("BadRules", some "__init__"), "__init__", "BadRules.__init__", defArgs s_BadRules_init, defBody s_BadRules_init, defScope s_BadRules_init, [], []⟩,
  ⟨("BadRule", some "__init__"), "__init__", "BadRule.__init__", defArgs s_BadRule_init, defBody s_BadRule_init, defScope s_BadRule_init, [], []⟩]
def fa : List He.Fa := [.int "LONGEST_AGENT" 8, .int "WORDS" 10, .glo "is_row", .glo "is_integer", .glo "is_number", .glo "is_below", .glo "is_agents_text", .glo "as_known_layers", .glo "as_layers", .glo "rules_in", .glo "begins_with", .glo "checked_layers", .glo "known_rules", .glo "checked_rules", .glo "after", .glo "controls_of", .glo "controls", .glo "_law_stream", .glo "_law_draw", .glo "_law_pick", .glo "_law_mixed", .glo "_law_each_once", .glo "_law_loose", .glo "_law_same", .glo "_law_controls", .glo "_law_after", .glo "_law_spoilt", .glo "_law_any_rules", .glo "_law_climbing", .glo "_law_drawn_rules", .glo "_law_layers_in", .glo "_law_right", .glo "law", .free "len", .free "list", .free "tuple", .free "sorted", .free "range", .free "all", .free "isinstance", .free "int", .free "str", .free "abs", .free "zip", .free "enumerate", .free "repr", .free "dict", .free "bool", .free "ValueError", .glo "ProtocolError", .glo "BadLayers", .glo "BadRules", .glo "BadRule"]
def loose0 : List PySem.Str := [("RESERVED" : PySem.Str), ("LONGEST_AGENT" : PySem.Str), ("OWNED" : PySem.Str), ("WORDS" : PySem.Str), ("is_row" : PySem.Str), ("is_integer" : PySem.Str), ("is_number" : PySem.Str), ("is_below" : PySem.Str), ("is_agents_text" : PySem.Str), ("as_known_layers" : PySem.Str), ("as_layers" : PySem.Str), ("rules_in" : PySem.Str), ("begins_with" : PySem.Str), ("ProtocolError" : PySem.Str), ("BadLayers" : PySem.Str), ("BadRules" : PySem.Str), ("BadRule" : PySem.Str), ("checked_layers" : PySem.Str), ("known_rules" : PySem.Str), ("checked_rules" : PySem.Str), ("after" : PySem.Str), ("controls_of" : PySem.Str), ("controls" : PySem.Str), ("_law_stream" : PySem.Str), ("_law_draw" : PySem.Str), ("_law_pick" : PySem.Str), ("_law_mixed" : PySem.Str), ("_law_each_once" : PySem.Str), ("_law_loose" : PySem.Str), ("_law_same" : PySem.Str), ("_law_controls" : PySem.Str), ("_law_after" : PySem.Str), ("_law_spoilt" : PySem.Str), ("_law_any_rules" : PySem.Str), ("_law_climbing" : PySem.Str)]
def loose1 : List PySem.Str := [("_law_drawn_rules" : PySem.Str), ("_law_layers_in" : PySem.Str), ("_law_right" : PySem.Str)]
abbrev loose : List PySem.Str := loose0 ++ loose1
abbrev R : PySem.W.OpenRow := PySem.W.OpenLaw.row PySem.Challenge.rw_roadheld_k11_whole_controls_and_after
def resv0 : List PySem.Str := ["cipher", "seal", "label", "word", "nothing", "takes", "puts", "protocol"]
def tbs : List He.Tab := [(fun K => He.ga K "RESERVED", resv0)]
def tabs (K : PySem.W.Frag) : Bool := He.tupB K "OWNED" [.str "cipher", .str "seal", .str "label"] && (He.Fa.glo "RESERVED").ok K && (He.Fa.glo "OWNED").ok K
def obH (g : Addr → Option Obj) : Bool × He.AlT := (tabs (He.frG g (He.asD g 6)), He.obsT fa fn tbs (He.frG g (He.asD g 6)))
def hk : PySem.W.Hook where
  α := Bool × He.AlT
  obs := fun s => obH s.heap.get?
  val := fun w => (true, He.valT fn tbs w)
  says := fun w h => ∃ K : PySem.W.Frag, K.In h ∧ tabs K = true ∧ He.SaysT fa fn tbs w K
  of := fun _ _ e => ⟨_, He.frG_in, (Prod.mk.inj e).1, (Prod.mk.inj e).2⟩
  keeps := fun _ _ _ ⟨K, hK, c⟩ k => ⟨K, PySem.W.Frag.In.keeps hK k, c⟩
def ob (s : PySem.W.SharedT) : Bool × He.AlT := obH (HandSHeadRun.getT s)
theorem ob_eq (s : PySem.W.SharedT) : ob s = hk.obs s.abs := by
  have e : HandSHeadRun.getT s = s.abs.heap.get? := funext (HandSHeadRun.getT_eq s)
  unfold ob
  rw [e]
  rfl
theorem runF (w : World) : HandSHeadRun.RunEq R (PySem.W.view R.prog [43]) hk ob 6000 loose (w.withFollow "special-get-raises" false) := by
  intro os
  kernel_rfl
theorem runT (w : World) : HandSHeadRun.RunEq R (PySem.W.view R.prog [43]) hk ob 6000 loose (w.withFollow "special-get-raises" true) := by
  intro os
  kernel_rfl
theorem run (w : World) : HandSHeadRun.RunEq R (PySem.W.view R.prog [43]) hk ob 6000 loose w :=
  PySem.W.byRow2 (P := fun w => HandSHeadRun.RunEq R (PySem.W.view R.prog [43]) hk ob 6000 loose w) "special-get-raises" runF runT w
end My
set_option maxHeartbeats 2000000
namespace My
open PySem PySem.Spec PyProof.Rows L2 DL
/-! ### the text behind the top -/
structure Text (W : World0) : Prop where
  kin : W.K.In W.base
  gl : W.base.Ns mainGlobals W.mg
  tab : tabs W.K = true
  saysT : He.SaysT fa fn tbs W.w W.K
theorem Text.says {W : World0} (T : Text W) : He.SaysD fa fn W.K := T.saysT.d
theorem Text.fr {W : World0} (T : Text W) (x : Str) (j : Nat) (hj : fa[j]? = some (.free x)) : W.mg x = none := He.free_ok T.kin T.gl (T.says.fact j hj)
abbrev DfT (W : World0) (x : Str) (st : Stmt) : Prop := ∃ f fd, FunD W.K x x (defArgs st) (defBody st) (defScope st) [] [] f fd ∧ W.mg x = some (.ref f)
theorem Text.df {W : World0} (T : Text W) (i : Nat) {x : Str} {st : Stmt} (h : fn[i]? = some ⟨(x, none), x, x, defArgs st, defBody st, defScope st, [], []⟩) (j : Nat) (hj : fa[j]? = some (.glo x)) : DfT W x st := by
  obtain ⟨fd, F⟩ := T.says.def_ i h
  exact ⟨_, fd, F, He.glo_ok T.kin T.gl (T.says.fact j hj)⟩
/-- a def, by its body over data -/
theorem cal_t {W : World0} {x : Str} {st : Stmt} (D0 : DfT W x st) {N ps : List Str} {n k : Nat} {A : PreD} {B : PostD} (S : FnScope N ps (defScope st)) (hn : ps.length = n)
    (bd : ∀ (kV doc pm : Value) (an : Option Addr) (cdv ct : Value) (us : List Value), us.length = n → bindArgs (PySem.W.fnOf x x (defArgs st) (defBody st) (defScope st) .none kV doc pm an cdv ct) ⟨us, []⟩ = pure (ps.zip us))
    (hb : ∀ (ds : List D) (R : Rs), ds.length = n → A ds R → RsLt R.length R → D.ltAll R.length ds = true → ∀ (f : Addr) (cd : Value) (Ar : Around) (outer : List PySem.Env) (s : Shared) (H : Hp) (E : XK), FamW (bodyF W N x (defScope st) f cd Ar outer s H E) W N k →
      DSs (bodyF W N x (defScope st) f cd Ar outer s H E) W.K (defBody st) (startD N ds) R { nx := fun _ R' => RetOk R.length (B ds R) .non R', rt := RetOk R.length (B ds R) }) : Cal W (k + 1) x n A B ps := by
  obtain ⟨f, fd, F, hm⟩ := D0
  exact cal_d F hm S hn bd fun ds R h1 h2 h3 h4 cd Ar outer s H E Fm => hb ds R h1 h2 h3 h4 f cd Ar outer s H E Fm
theorem Text.c_LONGEST_AGENT {W : World0} (T : Text W) : ∃ t, W.mg "LONGEST_AGENT" = some (.int 8 t) := He.int_ok T.kin T.gl (T.says.fact 0 rfl)
theorem Text.c_WORDS {W : World0} (T : Text W) : ∃ t, W.mg "WORDS" = some (.int 10 t) := He.int_ok T.kin T.gl (T.says.fact 1 rfl)
theorem Text.bl {W : World0} (T : Text W) : Bl W.mg where
  len := T.fr "len" 33 rfl
  list := T.fr "list" 34 rfl
  tuple := T.fr "tuple" 35 rfl
  sorted := T.fr "sorted" 36 rfl
  range := T.fr "range" 37 rfl
  all := T.fr "all" 38 rfl
  isinstance := T.fr "isinstance" 39 rfl
  int := T.fr "int" 40 rfl
  str := T.fr "str" 41 rfl
  abs := T.fr "abs" 42 rfl
  zip := T.fr "zip" 43 rfl
  enumerate := T.fr "enumerate" 44 rfl
  repr := T.fr "repr" 45 rfl
  dict := T.fr "dict" 46 rfl
  bool := T.fr "bool" 47 rfl
theorem Text.d_is_row {W : World0} (T : Text W) : DfT W "is_row" s_is_row := T.df 0 rfl 2 rfl
theorem Text.d_is_integer {W : World0} (T : Text W) : DfT W "is_integer" s_is_integer := T.df 1 rfl 3 rfl
theorem Text.d_is_number {W : World0} (T : Text W) : DfT W "is_number" s_is_number := T.df 2 rfl 4 rfl
theorem Text.d_is_below {W : World0} (T : Text W) : DfT W "is_below" s_is_below := T.df 3 rfl 5 rfl
theorem Text.d_is_agents_text {W : World0} (T : Text W) : DfT W "is_agents_text" s_is_agents_text := T.df 4 rfl 6 rfl
theorem Text.d_as_known_layers {W : World0} (T : Text W) : DfT W "as_known_layers" s_as_known_layers := T.df 5 rfl 7 rfl
theorem Text.d_as_layers {W : World0} (T : Text W) : DfT W "as_layers" s_as_layers := T.df 6 rfl 8 rfl
theorem Text.d_rules_in {W : World0} (T : Text W) : DfT W "rules_in" s_rules_in := T.df 7 rfl 9 rfl
theorem Text.d_begins_with {W : World0} (T : Text W) : DfT W "begins_with" s_begins_with := T.df 8 rfl 10 rfl
theorem Text.d_checked_layers {W : World0} (T : Text W) : DfT W "checked_layers" s_checked_layers := T.df 9 rfl 11 rfl
theorem Text.d_known_rules {W : World0} (T : Text W) : DfT W "known_rules" s_known_rules := T.df 10 rfl 12 rfl
theorem Text.d_checked_rules {W : World0} (T : Text W) : DfT W "checked_rules" s_checked_rules := T.df 11 rfl 13 rfl
theorem Text.d_after {W : World0} (T : Text W) : DfT W "after" s_after := T.df 12 rfl 14 rfl
theorem Text.d_controls_of {W : World0} (T : Text W) : DfT W "controls_of" s_controls_of := T.df 13 rfl 15 rfl
theorem Text.d_controls {W : World0} (T : Text W) : DfT W "controls" s_controls := T.df 14 rfl 16 rfl
theorem Text.d_law_stream {W : World0} (T : Text W) : DfT W "_law_stream" s_law_stream := T.df 15 rfl 17 rfl
theorem Text.d_law_draw {W : World0} (T : Text W) : DfT W "_law_draw" s_law_draw := T.df 16 rfl 18 rfl
theorem Text.d_law_pick {W : World0} (T : Text W) : DfT W "_law_pick" s_law_pick := T.df 17 rfl 19 rfl
theorem Text.d_law_mixed {W : World0} (T : Text W) : DfT W "_law_mixed" s_law_mixed := T.df 18 rfl 20 rfl
theorem Text.d_law_each_once {W : World0} (T : Text W) : DfT W "_law_each_once" s_law_each_once := T.df 19 rfl 21 rfl
theorem Text.d_law_loose {W : World0} (T : Text W) : DfT W "_law_loose" s_law_loose := T.df 20 rfl 22 rfl
theorem Text.d_law_same {W : World0} (T : Text W) : DfT W "_law_same" s_law_same := T.df 21 rfl 23 rfl
theorem Text.d_law_controls {W : World0} (T : Text W) : DfT W "_law_controls" s_law_controls := T.df 22 rfl 24 rfl
theorem Text.d_law_after {W : World0} (T : Text W) : DfT W "_law_after" s_law_after := T.df 23 rfl 25 rfl
theorem Text.d_law_spoilt {W : World0} (T : Text W) : DfT W "_law_spoilt" s_law_spoilt := T.df 24 rfl 26 rfl
theorem Text.d_law_any_rules {W : World0} (T : Text W) : DfT W "_law_any_rules" s_law_any_rules := T.df 25 rfl 27 rfl
theorem Text.d_law_climbing {W : World0} (T : Text W) : DfT W "_law_climbing" s_law_climbing := T.df 26 rfl 28 rfl
theorem Text.d_law_drawn_rules {W : World0} (T : Text W) : DfT W "_law_drawn_rules" s_law_drawn_rules := T.df 27 rfl 29 rfl
theorem Text.d_law_layers_in {W : World0} (T : Text W) : DfT W "_law_layers_in" s_law_layers_in := T.df 28 rfl 30 rfl
theorem Text.d_law_right {W : World0} (T : Text W) : DfT W "_law_right" s_law_right := T.df 29 rfl 31 rfl
theorem Text.d_law {W : World0} (T : Text W) : DfT W "law" s_law := T.df 30 rfl 32 rfl
local macro_rules | `(tactic| walk_at "fw") => `(tactic| first | assumption | exact DL.FamW.blk (by assumption) _)
local macro_rules | `(tactic| walk_at "fm") => `(tactic| first | assumption | exact DL.FamW.toFam (by assumption) | exact DL.FamW.toFam (DL.FamW.blk (by assumption) _))
local macro_rules | `(tactic| walk_at "sc") => `(tactic| first | exact fun _ => .inl rfl | exact fun _ => .inr (.inl rfl) | exact fun _ => .inr (.inr rfl) | exact fun _ => .inr rfl)
local macro_rules | `(tactic| walk_at "gl") => `(tactic| exact fun _ => rfl)
local macro_rules | `(tactic| walk_at "bl") => `(tactic| exact Text.bl (by assumption))
local macro_rules | `(tactic| walk_at "va") => `(tactic| first
  | refine de_var 0 (by walk_at "fm") (by decide +kernel) (by walk_at "sc") rfl ?_
  | refine de_var 1 (by walk_at "fm") (by decide +kernel) (by walk_at "sc") rfl ?_
  | refine de_var 2 (by walk_at "fm") (by decide +kernel) (by walk_at "sc") rfl ?_
  | refine de_var 3 (by walk_at "fm") (by decide +kernel) (by walk_at "sc") rfl ?_
  | refine de_var 4 (by walk_at "fm") (by decide +kernel) (by walk_at "sc") rfl ?_
  | refine de_var 5 (by walk_at "fm") (by decide +kernel) (by walk_at "sc") rfl ?_
  | refine de_var 6 (by walk_at "fm") (by decide +kernel) (by walk_at "sc") rfl ?_
  | refine de_var 7 (by walk_at "fm") (by decide +kernel) (by walk_at "sc") rfl ?_
  | refine de_var 8 (by walk_at "fm") (by decide +kernel) (by walk_at "sc") rfl ?_
  | refine de_var 9 (by walk_at "fm") (by decide +kernel) (by walk_at "sc") rfl ?_
  | refine de_var 10 (by walk_at "fm") (by decide +kernel) (by walk_at "sc") rfl ?_
  | refine de_var 11 (by walk_at "fm") (by decide +kernel) (by walk_at "sc") rfl ?_)
local macro_rules | `(tactic| walk_at "as") => `(tactic| first
  | refine ds_set 0 (by walk_at "fm") (by decide +kernel) (by walk_at "sc") ?_
  | refine ds_set 1 (by walk_at "fm") (by decide +kernel) (by walk_at "sc") ?_
  | refine ds_set 2 (by walk_at "fm") (by decide +kernel) (by walk_at "sc") ?_
  | refine ds_set 3 (by walk_at "fm") (by decide +kernel) (by walk_at "sc") ?_
  | refine ds_set 4 (by walk_at "fm") (by decide +kernel) (by walk_at "sc") ?_
  | refine ds_set 5 (by walk_at "fm") (by decide +kernel) (by walk_at "sc") ?_
  | refine ds_set 6 (by walk_at "fm") (by decide +kernel) (by walk_at "sc") ?_
  | refine ds_set 7 (by walk_at "fm") (by decide +kernel) (by walk_at "sc") ?_
  | refine ds_set 8 (by walk_at "fm") (by decide +kernel) (by walk_at "sc") ?_
  | refine ds_set 9 (by walk_at "fm") (by decide +kernel) (by walk_at "sc") ?_
  | refine ds_set 10 (by walk_at "fm") (by decide +kernel) (by walk_at "sc") ?_
  | refine ds_set 11 (by walk_at "fm") (by decide +kernel) (by walk_at "sc") ?_
  | refine ds_asg ?_)
local macro_rules | `(tactic| walk_at "isi") => `(tactic| first
  | refine e_isLT (by walk_at "bl") (by walk_at "fm") (by walk_at "gl") (by walk_at "gl") (by walk_at "gl") ?_
  | refine e_isLTD (by walk_at "bl") (by walk_at "fm") (by walk_at "gl") (by walk_at "gl") (by walk_at "gl") (by walk_at "gl") ?_
  | ((with_reducible show DE _ _ (Expr.Call _ [_, Expr.Name "str" _] _ _) _ _ _); (refine e_isi (n := "str") (by walk_at "bl") (by walk_at "fm") (by walk_at "gl") (by walk_at "gl") (Text.bl (by assumption)).str (by decide +kernel) ?_))
  | ((with_reducible show DE _ _ (Expr.Call _ [_, Expr.Name "int" _] _ _) _ _ _); (refine e_isi (n := "int") (by walk_at "bl") (by walk_at "fm") (by walk_at "gl") (by walk_at "gl") (Text.bl (by assumption)).int (by decide +kernel) ?_))
  | ((with_reducible show DE _ _ (Expr.Call _ [_, Expr.Name "bool" _] _ _) _ _ _); (refine e_isi (n := "bool") (by walk_at "bl") (by walk_at "fm") (by walk_at "gl") (by walk_at "gl") (Text.bl (by assumption)).bool (by decide +kernel) ?_))
  | ((with_reducible show DE _ _ (Expr.Call _ [_, Expr.Name "list" _] _ _) _ _ _); (refine e_isi (n := "list") (by walk_at "bl") (by walk_at "fm") (by walk_at "gl") (by walk_at "gl") (Text.bl (by assumption)).list (by decide +kernel) ?_))
  | ((with_reducible show DE _ _ (Expr.Call _ [_, Expr.Name "tuple" _] _ _) _ _ _); (refine e_isi (n := "tuple") (by walk_at "bl") (by walk_at "fm") (by walk_at "gl") (by walk_at "gl") (Text.bl (by assumption)).tuple (by decide +kernel) ?_))
  | ((with_reducible show DE _ _ (Expr.Call _ [_, Expr.Name "dict" _] _ _) _ _ _); (refine e_isi (n := "dict") (by walk_at "bl") (by walk_at "fm") (by walk_at "gl") (by walk_at "gl") (Text.bl (by assumption)).dict (by decide +kernel) ?_)))
local macro_rules | `(tactic| walk_at "ca") => `(tactic| first
  | ((with_reducible show DE _ _ (Expr.Call (Expr.Attribute _ "append" _) _ _ _) _ _ _); (refine e_append (by walk_at "fw") ?_))
  | ((with_reducible show DE _ _ (Expr.Call (Expr.Attribute _ "extend" _) _ _ _) _ _ _); (refine e_extend (by walk_at "fw") ?_))
  | ((with_reducible show DE _ _ (Expr.Call (Expr.Attribute _ "pop" _) [_] _ _) _ _ _); (refine e_popAt (by walk_at "fw") ?_))
  | ((with_reducible show DE _ _ (Expr.Call (Expr.Attribute _ "islower" _) _ _ _) _ _ _); (refine e_islower (by walk_at "fm") ?_))
  | ((with_reducible show DE _ _ (Expr.Call (Expr.Attribute _ "isalpha" _) _ _ _) _ _ _); (refine e_isalpha (by walk_at "fm") ?_))
  | ((with_reducible show DE _ _ (Expr.Call (Expr.Attribute _ "isascii" _) _ _ _) _ _ _); (refine e_isascii (by walk_at "fm") ?_))
  | ((with_reducible show DE _ _ (Expr.Call (Expr.Name "isinstance" _) _ _ _) _ _ _); (walk_at "isi"))
  | ((with_reducible show DE _ _ (Expr.Call (Expr.Name "len" _) _ _ _) _ _ _); (refine e_len (by walk_at "bl") (by walk_at "fm") (by walk_at "gl") ?_))
  | ((with_reducible show DE _ _ (Expr.Call (Expr.Name "int" _) _ _ _) _ _ _); (refine e_int (by walk_at "bl") (by walk_at "fm") (by walk_at "gl") ?_))
  | ((with_reducible show DE _ _ (Expr.Call (Expr.Name "abs" _) _ _ _) _ _ _); (refine e_abs (by walk_at "bl") (by walk_at "fm") (by walk_at "gl") ?_))
  | ((with_reducible show DE _ _ (Expr.Call (Expr.Name "all" _) _ _ _) _ _ _); (refine e_all (by walk_at "bl") (by walk_at "fm") (by walk_at "gl") ?_))
  | ((with_reducible show DE _ _ (Expr.Call (Expr.Name "tuple" _) _ _ _) _ _ _); (refine e_tuple (by walk_at "bl") (by walk_at "fm") (by walk_at "gl") ?_)))
local macro_rules | `(tactic| walk_at "cm") => `(tactic| first
  | ((with_reducible show DE _ _ (Expr.Compare _ [CmpOp.Eq] _ _) _ _ _); (refine e_eq (by walk_at "fm") ?_))
  | ((with_reducible show DE _ _ (Expr.Compare _ [CmpOp.NotEq] _ _) _ _ _); (refine e_ne (by walk_at "fm") ?_))
  | ((with_reducible show DE _ _ (Expr.Compare _ [CmpOp.In] _ _) _ _ _); (refine e_in (by walk_at "fm") ?_))
  | ((with_reducible show DE _ _ (Expr.Compare _ [CmpOp.NotIn] _ _) _ _ _); (refine e_notIn (by walk_at "fm") ?_))
  | ((with_reducible show DE _ _ (Expr.Compare _ [CmpOp.Is] _ _) _ _ _); (refine e_isNo ?_))
  | ((with_reducible show DE _ _ (Expr.Compare _ [CmpOp.Lt] _ _) _ _ _); (refine e_lt ?_))
  | ((with_reducible show DE _ _ (Expr.Compare _ [CmpOp.GtE] _ _) _ _ _); (refine e_ge ?_)))
local macro_rules | `(tactic| walk_at "bo") => `(tactic| first
  | ((with_reducible show DE _ _ (Expr.BinOp _ Operator.Sub _ _) _ _ _); (refine e_subI ?_))
  | ((with_reducible show DE _ _ (Expr.BinOp _ Operator.Mult _ _) _ _ _); (refine e_mulI ?_))
  | ((with_reducible show DE _ _ (Expr.BinOp _ Operator.Mod _ _) _ _ _); (refine e_modI ?_))
  | ((with_reducible show DE _ _ (Expr.BinOp _ Operator.FloorDiv _ _) _ _ _); (refine e_divI ?_))
  | ((with_reducible show DE _ _ (Expr.BinOp _ Operator.Pow _ _) _ _ _); (refine e_powI ?_)))
local macro_rules | `(tactic| walk_at "e1") => `(tactic| first
  | ((with_reducible show DE _ _ (Expr.Name _ _) _ _ _); (walk_at "va"))
  | ((with_reducible show DE _ _ (Expr.Constant _ _ _) _ _ _); (first | refine de_int ?_ | refine de_str ?_ | refine de_bl ?_ | refine de_non ?_))
  | ((with_reducible show DE _ _ (Expr.Subscript _ (Expr.Slice _ _ _ _) _) _ _ _); (refine e_slL (by walk_at "fm") ?_))
  | ((with_reducible show DE _ _ (Expr.Subscript _ _ _) _ _ _); (refine e_ix (by walk_at "fm") ?_))
  | ((with_reducible show DE _ _ (Expr.Call _ _ _ _) _ _ _); (walk_at "ca"))
  | ((with_reducible show DE _ _ (Expr.Compare _ _ _ _) _ _ _); (walk_at "cm"))
  | ((with_reducible show DE _ _ (Expr.BinOp _ _ _ _) _ _ _); (walk_at "bo"))
  | ((with_reducible show DE _ _ (Expr.Tuple _ _ _) _ _ _); (refine de_tup ?_))
  | ((with_reducible show DE _ _ (Expr.UnaryOp UnaryOp.Not _ _) _ _ _); (refine de_not ?_))
  | ((with_reducible show DE _ _ (Expr.BoolOp _ [_] _) _ _ _); (refine de_one ?_))
  | ((with_reducible show DE _ _ (Expr.BoolOp BoolOp.And _ _) _ _ _); (refine de_and ?_))
  | ((with_reducible show DE _ _ (Expr.BoolOp BoolOp.Or _ _) _ _ _); (refine de_or ?_))
  | ((with_reducible show DE _ _ (Expr.IfExp _ _ _ _) _ _ _); (refine de_ite ?_)))
local macro_rules | `(tactic| walk_at "t1") => `(tactic| first
  | ((with_reducible show DT _ _ (Expr.UnaryOp UnaryOp.Not _ _) _ _ _); (refine dt_not ?_))
  | ((with_reducible show DT _ _ (Expr.BoolOp BoolOp.And _ _) _ _ _); (refine DW.dt (dw_and ?_)))
  | ((with_reducible show DT _ _ (Expr.BoolOp BoolOp.Or _ _) _ _ _); (refine DW.dt (dw_or ?_)))
  | ((with_reducible show DW _ _ (Expr.BoolOp BoolOp.And [_] _) _ _ _); (refine dw_and1 ?_))
  | ((with_reducible show DW _ _ (Expr.BoolOp BoolOp.Or [_] _) _ _ _); (refine dw_or1 ?_))
  | ((with_reducible show DW _ _ (Expr.BoolOp BoolOp.And _ _) _ _ _); (refine dw_and ?_))
  | ((with_reducible show DW _ _ (Expr.BoolOp BoolOp.Or _ _) _ _ _); (refine dw_or ?_))
  | ((with_reducible show DT _ _ (Expr.Compare _ [CmpOp.Is] _ _) _ _ _); (first | refine t_isNo ?_ | refine t_isIB ?_))
  | ((with_reducible show DT _ _ (Expr.Compare _ [CmpOp.IsNot] _ _) _ _ _); (refine t_isntNo ?_))
  | ((with_reducible show DT _ _ (Expr.Compare _ [CmpOp.Eq] _ _) _ _ _); (refine t_eq (by walk_at "fm") ?_))
  | ((with_reducible show DT _ _ (Expr.Compare _ [CmpOp.NotEq] _ _) _ _ _); (refine t_ne (by walk_at "fm") ?_))
  | ((with_reducible show DT _ _ (Expr.Compare _ [CmpOp.LtE, CmpOp.Lt] _ _) _ _ _); (refine t_leLt ?_))
  | ((with_reducible show DT _ _ (Expr.Compare _ [CmpOp.Lt] _ _) _ _ _); (refine t_lt ?_))
  | ((with_reducible show DT _ _ (Expr.Compare _ [CmpOp.Gt] _ _) _ _ _); (refine t_gt ?_))
  | ((with_reducible show DT _ _ (Expr.Compare _ [CmpOp.GtE] _ _) _ _ _); (refine t_ge ?_))
  | ((with_reducible show DT _ _ (Expr.Compare _ [CmpOp.In] _ _) _ _ _); (refine t_in (by walk_at "fm") ?_))
  | ((with_reducible show DT _ _ (Expr.Compare _ [CmpOp.NotIn] _ _) _ _ _); (refine t_notIn (by walk_at "fm") ?_))
  | ((with_reducible show DT _ _ _ _ _ _); (refine t_of ?_)))
local macro_rules | `(tactic| walk_at "s1") => `(tactic| first
  | ((with_reducible show DSs _ _ _ _ _ _); (first | refine dss_one ?_ | refine dss_cons ?_ | refine dss_nil ?_))
  | ((with_reducible show DS _ _ (Stmt.Return _ _) _ _ _); (refine ds_ret ?_))
  | ((with_reducible show DS _ _ (Stmt.If _ _ _ _) _ _ _); (refine ds_if ?_))
  | ((with_reducible show DS _ _ (Stmt.Assign [Expr.Name _ _] _ _) _ _ _); (walk_at "as"))
  | ((with_reducible show DS _ _ (Stmt.Assign _ _ _) _ _ _); (refine ds_asg ?_))
  | ((with_reducible show DS _ _ (Stmt.Expr _ _) _ _ _); (first | refine ds_doc ?_ | refine ds_expr ?_)))
local macro_rules | `(tactic| walk_at "sx") => `(tactic| first
  | ((with_reducible show DSs _ _ _ _ _ _); (first | refine dss_one ?_ | refine dss_cons ?_ | refine dss_nil ?_))
  | ((with_reducible show DS _ _ (Stmt.Return _ _) _ _ _); (refine ds_ret ?_))
  | ((with_reducible show DS _ _ (Stmt.If _ _ _ _) _ _ _); (refine ds_if ?_)))
local macro_rules | `(tactic| walk_at "gw") => `(tactic| first
  | refine dgw_name 0 (by walk_at "fm") (by decide +kernel) (by walk_at "sc") (by simp) ?_
  | refine dgw_name 1 (by walk_at "fm") (by decide +kernel) (by walk_at "sc") (by simp) ?_
  | refine dgw_name 2 (by walk_at "fm") (by decide +kernel) (by walk_at "sc") (by simp) ?_
  | refine dgw_name 3 (by walk_at "fm") (by decide +kernel) (by walk_at "sc") (by simp) ?_
  | refine dgw_name 4 (by walk_at "fm") (by decide +kernel) (by walk_at "sc") (by simp) ?_
  | refine dgw_name 5 (by walk_at "fm") (by decide +kernel) (by walk_at "sc") (by simp) ?_
  | refine dgw_name 6 (by walk_at "fm") (by decide +kernel) (by walk_at "sc") (by simp) ?_
  | refine dgw_name 7 (by walk_at "fm") (by decide +kernel) (by walk_at "sc") (by simp) ?_
  | refine dgw_name 8 (by walk_at "fm") (by decide +kernel) (by walk_at "sc") (by simp) ?_
  | refine dgw_name 9 (by walk_at "fm") (by decide +kernel) (by walk_at "sc") (by simp) ?_
  | refine dgw_name 10 (by walk_at "fm") (by decide +kernel) (by walk_at "sc") (by simp) ?_
  | refine dgw_name 11 (by walk_at "fm") (by decide +kernel) (by walk_at "sc") (by simp) ?_)
local macro_rules | `(tactic| walk_at "gn") => `(tactic| first
  | refine dg_name 0 (by walk_at "fm") (by decide +kernel) (by walk_at "sc") ?_
  | refine dg_name 1 (by walk_at "fm") (by decide +kernel) (by walk_at "sc") ?_
  | refine dg_name 2 (by walk_at "fm") (by decide +kernel) (by walk_at "sc") ?_
  | refine dg_name 3 (by walk_at "fm") (by decide +kernel) (by walk_at "sc") ?_
  | refine dg_name 4 (by walk_at "fm") (by decide +kernel) (by walk_at "sc") ?_
  | refine dg_name 5 (by walk_at "fm") (by decide +kernel) (by walk_at "sc") ?_
  | refine dg_name 6 (by walk_at "fm") (by decide +kernel) (by walk_at "sc") ?_
  | refine dg_name 7 (by walk_at "fm") (by decide +kernel) (by walk_at "sc") ?_
  | refine dg_name 8 (by walk_at "fm") (by decide +kernel) (by walk_at "sc") ?_
  | refine dg_name 9 (by walk_at "fm") (by decide +kernel) (by walk_at "sc") ?_
  | refine dg_name 10 (by walk_at "fm") (by decide +kernel) (by walk_at "sc") ?_
  | refine dg_name 11 (by walk_at "fm") (by decide +kernel) (by walk_at "sc") ?_)
local macro_rules | `(tactic| walk_at "x1") => `(tactic| first
  | ((with_reducible show DGw _ _ _ (Expr.Name _ _) _ _ _ _); (walk_at "gw"))
  | ((with_reducible show DG _ _ (Expr.Name _ _) _ _ _ _); (walk_at "gn"))
  | ((with_reducible show DA _ _ [] _ _ _); (refine da_nil ?_))
  | ((with_reducible show DA _ _ _ _ _ _); (refine da_cons ?_))
  | ((with_reducible show DO _ _ none _ _ _); (refine do_none ?_))
  | ((with_reducible show DO _ _ _ _ _ _); (refine do_some ?_))
  | ((with_reducible show DG _ _ (Expr.Subscript _ _ _) _ _ _ _); (refine dg_subL (by walk_at "fw") ?_))
  | ((with_reducible show DTs _ _ [] _ _ _); (refine dts_nil ?_))
  | ((with_reducible show DGsw _ _ _ [] _ _ _ _); (refine dgsw_nil ?_))
  | ((with_reducible show DGsw _ _ _ _ _ _ _ _); (refine dgsw_cons ?_))
  | ((with_reducible show DGs _ _ [] _ _ _ _); (refine dgs_nil ?_))
  | ((with_reducible show DGs _ _ _ _ _ _ _); (refine dgs_cons ?_))
  | refine ⟨fun _ => ?_, fun e => absurd (show true = false from e) Bool.noConfusion⟩
  | refine ⟨fun e => absurd (show false = true from e) Bool.noConfusion, fun _ => ?_⟩
  | ((with_reducible show _ ≤ sizeLine ∧ _); (refine ⟨by rw [sizeLine_eq]; exact Nat.le_of_ble_eq_true rfl, ?_⟩))
  | refine ⟨_, rfl, ?_⟩
  | refine ⟨_, _, rfl, rfl, ?_⟩
  | refine ⟨_, _, _, Seq.own rfl, rfl, rfl, ?_⟩
  | refine ⟨_, _, _, _, rfl, rfl, rfl, rfl, ?_⟩)
local macro_rules | `(tactic| walk_at "d") => `(tactic| (repeat (first | walk_at "s1" | walk_at "e1" | walk_at "t1" | walk_at "x1")))
local macro_rules | `(tactic| walk_at "di") => `(tactic| (repeat (first
  | ((with_reducible show DE _ _ (Expr.BinOp _ Operator.Add _ _) _ _ _); (refine e_addI ?_))
  | walk_at "s1" | walk_at "e1" | walk_at "t1" | walk_at "x1"
  | ((with_reducible show CMul _ _ ∧ _); (refine ⟨.inr ⟨by decide, by decide⟩, ?_⟩))
  | ((with_reducible show CMul _ _ ∧ _); (refine ⟨.inl ⟨by decide, by decide⟩, ?_⟩)))))
theorem sc_is_row : FnScope ["thing"] ["thing"] (defScope s_is_row) := ⟨rfl, rfl, rfl, by decide +kernel, rfl, by decide +kernel, by decide +kernel⟩
theorem c_is_row {W : World0} (T : Text W) : Cal W 1 "is_row" 1 (fun ds R => ∃ x, ds = [x] ∧ Live R x ∧ x.row = true) (fun ds R d R' => R' = R ∧ d = .bl true) ["thing"] := by
  refine cal_t T.d_is_row sc_is_row rfl (fun _ _ _ _ _ _ us hl => match us, hl with | [_], _ => rfl) ?_
  rintro ds R hl ⟨x, rfl, lv, hr⟩ hR hd f cd Ar outer s H E Fm
  walk_at "d"
  refine ⟨lv, ?_⟩
  exact .same rfl hR rfl ⟨rfl, by rw [hr]⟩
theorem sc_is_integer : FnScope ["thing"] ["thing"] (defScope s_is_integer) := ⟨rfl, rfl, rfl, by decide +kernel, rfl, by decide +kernel, by decide +kernel⟩
theorem c_is_integer {W : World0} (T : Text W) : Cal W 1 "is_integer" 1 (fun ds R => ∃ i, ds = [.int i]) (fun ds R d R' => R' = R ∧ d = .bl true) ["thing"] := by
  refine cal_t T.d_is_integer sc_is_integer rfl (fun _ _ _ _ _ _ us hl => match us, hl with | [_], _ => rfl) ?_
  rintro ds R hl ⟨i, rfl⟩ hR hd f cd Ar outer s H E Fm
  have lv : Live R (.int i) := live_at rfl fun _ => nofun
  walk_at "d"
  refine ⟨lv, _, rfl, ?_⟩
  walk_at "d"
  refine ⟨lv, _, rfl, ?_⟩
  walk_at "d"
  exact .same rfl hR rfl ⟨rfl, rfl⟩
theorem sc_is_number : FnScope ["thing"] ["thing"] (defScope s_is_number) := ⟨rfl, rfl, rfl, by decide +kernel, rfl, by decide +kernel, by decide +kernel⟩
theorem c_is_number {W : World0} (T : Text W) : Cal W 2 "is_number" 1 (fun ds R => ∃ i, ds = [.int i]) (fun ds R d R' => R' = R ∧ ∃ i, ds = [.int i] ∧ d = .bl (decide (0 ≤ i))) ["thing"] := by
  refine cal_t T.d_is_number sc_is_number rfl (fun _ _ _ _ _ _ us hl => match us, hl with | [_], _ => rfl) ?_
  rintro ds R hl ⟨i, rfl⟩ hR hd f cd Ar outer s H E Fm
  walk_at "d"
  refine de_call (c_is_integer T) Fm (by decide) (fun _ => rfl) ?_
  walk_at "d"
  refine ⟨rfl, ⟨_, rfl⟩, ?_⟩
  rintro d R2 ⟨rfl, rfl⟩
  walk_at "d"
  exact .same rfl hR rfl ⟨rfl, _, rfl, rfl⟩
theorem sc_is_below : FnScope ["thing", "many"] ["thing", "many"] (defScope s_is_below) := ⟨rfl, rfl, rfl, by decide +kernel, rfl, by decide +kernel, by decide +kernel⟩
theorem c_is_below {W : World0} (T : Text W) : Cal W 3 "is_below" 2 (fun ds R => ∃ i m : Int, ds = [.int i, .int m] ∧ 0 ≤ i ∧ i < m) (fun ds R d R' => R' = R ∧ d = .bl true) ["thing", "many"] := by
  refine cal_t T.d_is_below sc_is_below rfl (fun _ _ _ _ _ _ us hl => match us, hl with | [_, _], _ => rfl) ?_
  rintro ds R hl ⟨i, m, rfl, h0, h1⟩ hR hd f cd Ar outer s H E Fm
  walk_at "d"
  refine de_call (c_is_number T) Fm (by decide) (fun _ => rfl) ?_
  walk_at "d"
  refine ⟨rfl, ⟨_, rfl⟩, ?_⟩
  rintro d R2 ⟨rfl, j, e, rfl⟩
  cases e
  refine ⟨true, by rw [decide_eq_true h0], ?_⟩
  walk_at "d"
  exact .same rfl hR rfl ⟨rfl, by rw [decide_eq_true h1]⟩
def resvD : D := .tup (resv.map .str)
def ownedD : D := .tup [.str "cipher", .str "seal", .str "label"]
theorem Text.tabs3 {W : World0} (T : Text W) : He.tupB W.K "OWNED" [.str "cipher", .str "seal", .str "label"] = true ∧ (He.Fa.glo "RESERVED").ok W.K = true ∧ (He.Fa.glo "OWNED").ok W.K = true := by
  have h := T.tab
  simp only [tabs, Bool.and_eq_true] at h
  exact ⟨h.1.1, h.1.2, h.2⟩
theorem Text.owned {W : World0} (T : Text W) : ∃ a, W.mg "OWNED" = some (.ref a) ∧ ∀ H ι, Rp W.K H ι (.ref a) ownedD :=
  ⟨_, He.glo_ok T.kin T.gl T.tabs3.2.2, tab_rp T.tabs3.1 fun H ι => .cons (.str _) (.cons (.str _) (.cons (.str _) .nil))⟩
theorem Text.resv {W : World0} (T : Text W) : ∃ d es n, W.mg "RESERVED" = some (.ref d) ∧ KDict W.K W.w d es n ∧ ∀ z, My.resv0.contains z = false → PySem.W.nsIn W.K d z = some none := by
  obtain ⟨es, n, D⟩ := T.saysT.tab 0 (t := (fun K => He.ga K "RESERVED", resv0)) rfl
  refine ⟨_, es, n, He.glo_ok T.kin T.gl T.tabs3.2.1, D, fun z hz => ?_⟩
  have e : tbs.map (fun t => He.dicW W.K (t.1 W.K)) = tbs.map fun t => some (He.keysIn W.w.params t.2) := congrArg (fun z : He.AlT => z.2) T.saysT
  have e2 : He.dicW W.K (He.ga W.K "RESERVED") = some (He.keysIn W.w.params resv0) := by
    have := congrArg (fun l => l[0]?) e
    exact Option.some.inj this
  exact dicW_ns e2 hz
theorem sc_agents_text : FnScope ["text"] ["text"] (defScope s_is_agents_text) := ⟨rfl, rfl, rfl, by decide +kernel, rfl, by decide +kernel, by decide +kernel⟩
theorem c_agents_text {W : World0} (T : Text W) : Cal W 1 "is_agents_text" 1 (fun ds R => ∃ z, ds = [.str z] ∧ agentB z = true) (fun ds R d R' => R' = R ∧ d = .bl true) ["text"] := by
  refine cal_t T.d_is_agents_text sc_agents_text rfl (fun _ _ _ _ _ _ us hl => match us, hl with | [_], _ => rfl) ?_
  rintro ds R hl ⟨z, rfl, hz⟩ hR hd f cd Ar outer s H E Fm
  obtain ⟨tk, m8⟩ := T.c_LONGEST_AGENT
  obtain ⟨rd, es, n, mr, kd, hr⟩ := T.resv
  simp only [agentB, Bool.and_eq_true, decide_eq_true_eq, Bool.not_eq_true'] at hz
  obtain ⟨⟨⟨⟨h1, h2⟩, h3⟩, h4⟩, ⟨h5, h6⟩, h7⟩ := hz
  walk_at "d"
  refine ⟨z.length, by show (if _ then _ else _) = _; rw [if_pos (by rw [sizeLine_eq]; omega)], ?_⟩
  refine de_glo Fm.toFam (fun _ => rfl) m8 (v := .int 8) ⟨_, rfl⟩ (fun _ _ => .int 8) ?_
  refine ⟨z.length, 8, rfl, rfl, ?_⟩
  rw [decide_eq_false (show ¬ (8 : Int) < ((z.length : Nat) : Int) by omega)]
  walk_at "d"
  rw [h5]
  walk_at "d"
  rw [h6]
  walk_at "d"
  rw [h7]
  repeat (first | walk_at "s1" | walk_at "x1")
  refine de_notInG Fm (fun _ => rfl) mr kd ?_
  walk_at "d"
  refine ⟨z, none, rfl, hr z (by show resv0.contains z = false; exact h4), ?_⟩
  exact .same rfl hR rfl ⟨rfl, rfl⟩
theorem sc_stream : FnScope ["script"] ["script"] (defScope s_law_stream) := ⟨rfl, rfl, rfl, by decide +kernel, rfl, by decide +kernel, by decide +kernel⟩
theorem c_stream {W : World0} (T : Text W) : Cal W 1 "_law_stream" 1 (fun ds R => ∃ ns : List Int, ds = [.rd (ns.map .int)] ∧ R = [] ∧ ns.length ≤ 63) (fun ds R d R' => d = .own 1 ∧ St R' 0 []) ["script"] := by
  refine cal_t T.d_law_stream sc_stream rfl (fun _ _ _ _ _ _ us hl => match us, hl with | [_], _ => rfl) ?_
  rintro ds R hl ⟨ns, rfl, rfl, hn⟩ hR hd f cd Ar outer s H E Fm
  walk_at "d"
  refine de_lstO ?_
  refine da_cons ?_
  refine e_listO T.bl Fm.toFam (fun _ => rfl) ?_
  walk_at "d"
  refine ⟨ns.map .int, .inl (.inr (.inl rfl)), ?_⟩
  walk_at "d"
  exact .keep ⟨rfl, ns, 0, 17, rfl, hn, by omega, by omega, by omega⟩
theorem sc_draw : FnScope ["stream", "many", "cell", "digit", "mixed"] ["stream", "many"] (defScope s_law_draw) := ⟨rfl, rfl, rfl, by decide +kernel, rfl, by decide +kernel, by decide +kernel⟩
theorem c_draw {W : World0} (T : Text W) : Cal W 1 "_law_draw" 2 (fun ds R => ∃ (c : Nat) (S : Rs) (m : Int), ds = [.own 1, .int m] ∧ St R c S ∧ c < 2 ^ 40 ∧ 0 < m ∧ m < 1073741824)
    (fun ds R d R' => ∀ (c : Nat) (S : Rs) (m : Int), ds = [.own 1, .int m] → St R c S → St R' (c + 1) S ∧ ∃ r, d = .int r ∧ 0 ≤ r ∧ r < m) ["stream", "many"] := by
  refine cal_t T.d_law_draw sc_draw rfl (fun _ _ _ _ _ _ us hl => match us, hl with | [_, _], _ => rfl) ?_
  rintro ds R hl ⟨c, S, m, rfl, hS, hc, hm0, hm1⟩ hR hd f cd Ar outer s H E Fm
  have fin : ∀ {r : Int} {R' : Rs}, St R' (c + 1) S → 0 ≤ r → r < m → RetOk R.length (fun d R' => ∀ (c' : Nat) (S' : Rs) (m' : Int), [D.own 1, .int m] = [.own 1, .int m'] → St R c' S' → St R' (c' + 1) S' ∧ ∃ r, d = .int r ∧ 0 ≤ r ∧ r < m') (.int r) R' := by
    intro r R' h1 h2 h3
    refine .same (by rw [h1.len, hS.len]) ?_ rfl fun c' S' m' e1 e2 => ?_
    · obtain ⟨ns, a, e, rfl, _⟩ := h1
      exact strm_lt (by rw [hS.len]; omega) ns a _ e (hS.tail hR)
    · obtain ⟨rfl, rfl⟩ := hS.uniq e2
      cases e1
      exact ⟨h1, r, rfl, h2, h3⟩
  obtain ⟨ns, a, e, rfl, hns, ha, he0, he1⟩ := hS
  walk_at "d"
  refine e_addI ?_
  walk_at "d"
  have hc1 : (c : Int) + 1 = ((c + 1 : Nat) : Int) := by omega
  rw [hc1]
  walk_at "d"
  refine ds_while2 Fm.toFam (fun k ρ' R' => ∃ ns a e x, ns.length = k ∧ ns.length ≤ 63 ∧ 0 ≤ a ∧ 0 ≤ e ∧ e < 2147483647 ∧ ρ' = [some (.own 1), some (.int m), x, none, none] ∧ R' = strm ns a (c + 1) e ++ S)
    (fun ρ' R' => ∃ ns a e x, ns.length ≤ 63 ∧ 0 ≤ a ∧ 0 ≤ e ∧ e < 2147483647 ∧ ρ' = [some (.own 1), some (.int m), x, none, none] ∧ R' = strm ns a (c + 1) e ++ S) ns.length ⟨ns, a, e, none, rfl, hns, ha, he0, he1, rfl, rfl⟩ ?_ ?_
  · rintro ρ' R' ⟨ns, a, e, x, hns, ha, he0, he1, rfl, rfl⟩
    walk_at "d"
    refine ⟨fun hk => ?_, fun hk => ?_⟩
    · walk_at "di"
      refine ⟨hm0, ?_⟩
      walk_at "di"
      refine ⟨⟨hm0, hm1⟩, ?_⟩
      walk_at "di"
      exact fin ⟨ns, a / m, e, rfl, hns, Int.ediv_nonneg ha (by omega), he0, he1⟩ (Int.emod_nonneg _ (by omega)) (Int.emod_lt_of_pos _ hm0)
    · walk_at "di"
      refine ⟨⟨by omega, by omega, by omega⟩, ?_⟩
      walk_at "di"
      refine ⟨by omega, ?_⟩
      have q0 : 0 ≤ (e + 7919 * ((c + 1 : Nat) : Int) + 104729) ^ (5 : Int).toNat % 2147483629 := Int.emod_nonneg _ (by omega)
      have q1 : (e + 7919 * ((c + 1 : Nat) : Int) + 104729) ^ (5 : Int).toNat % 2147483629 < 2147483629 := Int.emod_lt_of_pos _ (by omega)
      generalize (e + 7919 * ((c + 1 : Nat) : Int) + 104729) ^ (5 : Int).toNat % 2147483629 = mx at q0 q1
      walk_at "di"
      refine ⟨⟨by omega, by omega, by omega⟩, ?_⟩
      walk_at "di"
      refine ⟨by omega, ?_⟩
      walk_at "di"
      refine ⟨hm0, ?_⟩
      exact fin ⟨ns, a, e, rfl, hns, ha, he0, he1⟩ (Int.emod_nonneg _ (by omega)) (Int.emod_lt_of_pos _ hm0)
  · rintro k ρ' R' ⟨ns, a, e, x, rfl, hns, ha, he0, he1, rfl, rfl⟩
    walk_at "d"
    refine ⟨0, 0, rfl, rfl, by decide, fun hk => ?_, fun hk => ⟨fun e => (by cases e), fun _ => ⟨ns, a, e, x, hns, ha, he0, he1, rfl, rfl⟩⟩⟩
    walk_at "d"
    refine de_lst ?_
    walk_at "d"
    refine ⟨1, 1, ints_ok 0 ns, rfl, by decide, fun hk2 => ?_, fun hk => ⟨ns, a, e, x, hns, ha, he0, he1, rfl, rfl⟩⟩
    cases ns with
    | nil => cases hk2
    | cons n ns =>
      walk_at "d"
      refine ⟨0, _, _, rfl, rfl, by decide, rfl, ?_⟩
      walk_at "d"
      have hcl : 0 ≤ (if n < 0 then -n else n) := by split <;> omega
      generalize (if n < 0 then -n else n) = cl at hcl
      walk_at "di"
      refine ⟨by omega, ?_⟩
      have e0 : 0 ≤ (e * 8191 + cl + 3) % 2147483647 := Int.emod_nonneg _ (by omega)
      have e1 : (e * 8191 + cl + 3) % 2147483647 < 2147483647 := Int.emod_lt_of_pos _ (by omega)
      generalize (e * 8191 + cl + 3) % 2147483647 = ee at e0 e1
      walk_at "di"
      refine ⟨⟨by decide, by decide, by decide⟩, ?_⟩
      walk_at "di"
      refine ⟨fun hk => ?_, fun hk => ?_⟩
      · walk_at "di"
        exact ⟨ns.length, by simp, ns, cl, ee, _, rfl, by simp at hns; omega, hcl, e0, e1, rfl, rfl⟩
      · walk_at "di"
        exact ⟨ns.length, by simp, ns, 0, ee, _, rfl, by simp at hns; omega, by omega, e0, e1, rfl, rfl⟩
theorem sc_pick : FnScope ["stream", "things"] ["stream", "things"] (defScope s_law_pick) := ⟨rfl, rfl, rfl, by decide +kernel, rfl, by decide +kernel, by decide +kernel⟩
theorem c_pick {W : World0} (T : Text W) : Cal W 2 "_law_pick" 2 (fun ds R => ∃ (c : Nat) (S : Rs) (x : D) (xs : List D), ds = [.own 1, x] ∧ St R c S ∧ c < 2 ^ 40 ∧ Is3 x xs ∧ 0 < xs.length ∧ xs.length < 1073741824)
    (fun ds R d R' => ∀ (c : Nat) (S : Rs) (x : D) (xs : List D), ds = [.own 1, x] → St R c S → Is3 x xs → St R' (c + 1) S ∧ d ∈ xs) ["stream", "things"] := by
  refine cal_t T.d_law_pick sc_pick rfl (fun _ _ _ _ _ _ us hl => match us, hl with | [_, _], _ => rfl) ?_
  rintro ds R hl ⟨c, S, x, xs, rfl, hS, hc, hx, h0, h1⟩ hR hd f cd Ar outer s H E Fm
  obtain ⟨lv, hr, hz⟩ := live3 (R := R) hx
  walk_at "d"
  refine de_call (c_draw T) Fm (by decide) (fun _ => rfl) ?_
  walk_at "d"
  refine ⟨_, hz, ?_⟩
  walk_at "d"
  refine ⟨rfl, ⟨c, S, _, rfl, hS, hc, by omega, by omega⟩, ?_⟩
  rintro d R2 hB
  obtain ⟨hS2, r, rfl, hr0, hr1⟩ := hB c S _ rfl hS
  have hi : r.toNat < xs.length := by omega
  refine ⟨xs, r, xs[r.toNat], seq3 hx, rfl, ?_, ?_⟩
  · unfold atI ixN
    rw [if_pos hr0, if_pos hr1]
    exact List.getElem?_eq_getElem hi
  · have lx : D.ltAll R.length xs = true := by
      rw [← hx.lt]
      exact lt_mem hd (by simp)
    refine hS.ret (T := []) hR (by rw [List.append_nil]; exact hS2) (lt_mem lx (List.getElem_mem hi)) fun R3 h3 c' S' x' xs' e1 e2 e3 => ?_
    obtain ⟨rfl, rfl⟩ := hS.uniq e2
    cases e1
    refine ⟨h3, ?_⟩
    have : xs = xs' := by rcases hx with rfl | rfl | rfl <;> rcases e3 with e | e | e <;> cases e <;> rfl
    subst this
    exact List.getElem_mem hi
theorem sc_mixed : FnScope ["stream", "things", "left", "found", "k"] ["stream", "things"] (defScope s_law_mixed) := ⟨rfl, rfl, rfl, by decide +kernel, rfl, by decide +kernel, by decide +kernel⟩
theorem perm_out : ∀ (l : List D) (i : Nat) (h : i < l.length), (([l[i]] : List D) ++ l.eraseIdx i).Perm l
  | x :: l, 0, _ => .refl _
  | x :: l, i + 1, h => by
    have hi : i < l.length := by simpa using h
    have := perm_out l i hi
    exact (List.Perm.swap x l[i] (l.eraseIdx i)).trans (this.cons x)
theorem c_mixed {W : World0} (T : Text W) : Cal W 2 "_law_mixed" 2 (fun ds R => ∃ (c : Nat) (S : Rs) (x : D) (xs : List D), ds = [.own 1, x] ∧ St R c S ∧ c + xs.length < 2 ^ 40 ∧ Seq R x xs ∧ (∀ k, x = .own k → 1 < k) ∧ D.ltAll R.length xs = true ∧ xs.length < 1000000)
    (fun ds R d R' => ∀ (c : Nat) (S : Rs) (x : D) (xs : List D), ds = [.own 1, x] → St R c S → Seq R x xs → St R' (c + xs.length) S ∧ ∃ ys, d = .lst ys ∧ ys.Perm xs) ["stream", "things"] := by
  refine cal_t T.d_law_mixed sc_mixed rfl (fun _ _ _ _ _ _ us hl => match us, hl with | [_, _], _ => rfl) ?_
  rintro ds R hl ⟨c, S, x, xs, rfl, hS, hc, hx, hk, hlt, h1⟩ hR hd f cd Ar outer s H E Fm
  have hRl := hS.len
  walk_at "d"
  refine ds_par 2 3 Fm.toFam rfl rfl (by decide) (fun _ => rfl) (fun _ => rfl) (fun _ => rfl) ?_
  refine da_cons ?_
  refine e_listO T.bl Fm.toFam (fun _ => rfl) ?_
  walk_at "d"
  refine ⟨xs, hx, ?_⟩
  refine da_cons ?_
  refine de_lstO ?_
  walk_at "d"
  try refine ⟨by decide, ?_⟩
  walk_at "d"
  have hS1 : St (R ++ [.lst xs] ++ [.lst []]) c (S ++ [.lst xs, .lst []]) := by
    have := (hS.more (.lst xs)).more (.lst [])
    rwa [List.append_assoc S] at this
  have e2 : R.length = S.length + 2 + 0 := by omega
  have e3 : (R ++ [Res.lst xs]).length = S.length + 2 + 1 := by simp; omega
  rw [e3, e2]
  refine ⟨_, _, rfl, ?_⟩
  refine dss_cons ?_
  refine ds_for Fm.toFam ?_
  refine di_range1 Fm.toFam (fun _ => rfl) T.bl.range ?_
  walk_at "d"
  refine ⟨xs.length, by show (match (R ++ [Res.lst xs] ++ [Res.lst []])[S.length + 2 + 0]? with | some (.lst ds) => some ds.length | _ => none) = _; rw [hS1.at 0]; rfl, ?_⟩
  refine ⟨_, rfl, by omega, ?_⟩
  refine ⟨fun i ρ' R' => ∃ l f z, St R' (c + i) (S ++ [.lst l, .lst f]) ∧ l.length + i = xs.length ∧ (f ++ l).Perm xs ∧ ρ' = [some (.own 1), some x, some (.own (S.length + 2 + 0)), some (.own (S.length + 2 + 1)), z],
    ⟨xs, [], none, hS1, rfl, .refl _, rfl⟩, fun _ _ _ _ => trivial, ?_, ?_⟩
  · rintro i y ρ' R' hy ⟨l, fd, z, hS2, hlen, hp, rfl⟩
    obtain ⟨hi, rfl⟩ := upTo_at hy
    walk_at "d"
    refine ⟨_, _, rfl, hS2.at 1, ?_⟩
    walk_at "d"
    refine ⟨_, _, rfl, hS2.at 0, ?_⟩
    refine de_call (c_draw T) Fm (by decide) (fun _ => rfl) ?_
    walk_at "d"
    refine ⟨l.length, by show (match R'[S.length + 2 + 0]? with | some (.lst ds) => some ds.length | _ => none) = _; rw [hS2.at 0]; rfl, ?_⟩
    walk_at "d"
    have hil : i < xs.length := by simpa using hi
    refine ⟨rfl, ⟨c + i, _, _, rfl, hS2, by omega, by omega, by omega⟩, ?_⟩
    rintro d R3 hB
    obtain ⟨hS3, r, rfl, hr0, hr1⟩ := hB _ _ _ rfl hS2
    have hr2 : r.toNat < l.length := by omega
    refine ⟨r.toNat, l, l[r.toNat], by rw [Int.toNat_of_nonneg hr0], hS3.at 0, by omega, List.getElem?_eq_getElem hr2, ?_⟩
    have hS4 := hS3.put 0 (.lst (l.eraseIdx r.toNat))
    refine ⟨fd, hS4.at 1, ?_, ?_⟩
    · have := hp.length_eq
      have z := sizeLine_eq
      simp at this
      omega
    have hS5 := hS4.put 1 (.lst (fd ++ [l[r.toNat]]))
    walk_at "d"
    refine ⟨l.eraseIdx r.toNat, fd ++ [l[r.toNat]], _, hS5, ?_, ?_, rfl⟩
    · rw [List.length_eraseIdx_of_lt hr2]; omega
    · refine List.Perm.trans ?_ hp
      rw [List.append_assoc]
      refine List.Perm.append_left fd ?_
      exact perm_out l r.toNat hr2
  · rintro ρ' R' ⟨l, fd, z, hS2, hlen, hp, rfl⟩
    have hl0 : l = [] := by
      have q : l.length + (upTo 0 ((xs.length : Nat) : Int).toNat).length = xs.length := hlen
      rw [upTo_len] at q
      exact List.length_eq_zero_iff.mp (by simpa using q)
    subst hl0
    rw [List.append_nil] at hp
    refine dss_one (ds_retF ?_)
    walk_at "d"
    refine ⟨_, fd, rfl, hS2.at 1, ?_⟩
    have hS3 := hS2.put 1 .gone
    have lf : D.lt R.length (.lst fd) = true := lt_all fun d m => lt_mem hlt (hp.mem_iff.mp m)
    rw [upTo_len] at hS3
    have fin : RetOk R.length (fun d R' => ∀ (c' : Nat) (S' : Rs) (x' : D) (xs' : List D), [D.own 1, x] = [.own 1, x'] → St R c' S' → Seq R x' xs' → St R' (c' + xs'.length) S' ∧ ∃ ys, d = .lst ys ∧ ys.Perm xs') (.lst fd) (R'.set (S.length + 2 + 1) .gone) := by
      refine hS.ret hR hS3 lf fun R3 h3 c' S' x' xs' e1 e2' e3' => ?_
      obtain ⟨rfl, rfl⟩ := hS.uniq e2'
      cases e1
      have : xs = xs' := hx.uniq e3'
      subst this
      exact ⟨by simpa using h3, fd, rfl, hp⟩
    rw [e2] at fin
    exact fin
theorem sc_once : FnScope ["some", "found", "thing"] ["some"] (defScope s_law_each_once) := ⟨rfl, rfl, rfl, by decide +kernel, rfl, by decide +kernel, by decide +kernel⟩
theorem c_once {W : World0} (T : Text W) : Cal W 1 "_law_each_once" 1 (fun ds R => ∃ (x : D) (xs : List D), ds = [x] ∧ Lst R x xs ∧ D.okAll 58 xs = true ∧ xs.length < 1000000 ∧ D.ltAll R.length xs = true)
    (fun ds R d R' => ∀ (x : D) (xs : List D), ds = [x] → Lst R x xs → R' = R ∧ d = .lst (onceD [] xs)) ["some"] := by
  refine cal_t T.d_law_each_once sc_once rfl (fun _ _ _ _ _ _ us hl => match us, hl with | [_], _ => rfl) ?_
  rintro ds R hl ⟨x, xs, rfl, hx, hok, hz, hlt⟩ hR hd f cd Ar outer s H E Fm
  walk_at "d"
  refine de_lstO ?_
  walk_at "d"
  try refine ⟨by decide, ?_⟩
  walk_at "d"
  refine ds_for Fm.toFam ?_
  refine di_list Fm.toFam ?_
  walk_at "d"
  refine ⟨xs, hx.app, ?_⟩
  refine ⟨fun i ρ' R' => ∃ acc z, R' = R ++ [.lst acc] ∧ acc.length ≤ i ∧ (∀ d ∈ acc, d ∈ xs) ∧ i ≤ xs.length ∧ onceD acc (xs.drop i) = onceD [] xs ∧ ρ' = [some x, some (.own R.length), z],
    ⟨[], none, rfl, by simp, nofun, by omega, rfl, rfl⟩, fun i ρ' R' ⟨acc, z, h, _⟩ => by subst h; exact hx.app, ?_, ?_⟩
  · rintro i y ρ' R' hy ⟨acc, z, rfl, hlen, hm, hi, he, rfl⟩
    have hil := (List.getElem?_eq_some_iff.mp hy).1
    have hyx : y ∈ xs := List.mem_of_getElem? hy
    have hoy := okAll_at hok y hyx
    have hd2 : xs.drop i = y :: xs.drop (i + 1) := by
      rw [List.drop_eq_getElem_cons hil]
      congr 1
      rw [List.getElem?_eq_getElem hil] at hy
      exact Option.some.inj hy
    rw [hd2, onceD] at he
    walk_at "d"
    refine ⟨_, _, rfl, snd_at, ?_⟩
    walk_at "d"
    refine ⟨58, 58, acc, by unfold okSee; rw [see_ok _ hoy]; exact hoy, by decide, .own snd_at, okAll_of fun d m => okAll_at hok d (hm d m), ?_⟩
    rw [see_ok _ hoy]
    refine ⟨fun hk => ?_, fun hk => ?_⟩
    · rw [Bool.not_eq_true'] at hk
      rw [hk, if_neg Bool.false_ne_true] at he
      refine de_lst ?_
      walk_at "d"
      refine ⟨acc, [y], rfl, snd_at, by rw [sizeLine_eq]; simp; omega, ?_⟩
      rw [snd_set]
      exact ⟨acc ++ [y], _, rfl, by simp; omega, fun d m => (List.mem_append.mp m).elim (hm d) fun m => by rw [List.mem_singleton.mp m]; exact hyx, hil, he, rfl⟩
    · rw [Bool.not_eq_false'] at hk
      rw [hk, if_pos rfl] at he
      refine de_lst ?_
      walk_at "d"
      refine ⟨acc, [], rfl, snd_at, by rw [sizeLine_eq]; simp; omega, ?_⟩
      rw [snd_set, List.append_nil]
      exact ⟨acc, _, rfl, by omega, hm, hil, he, rfl⟩
  · rintro ρ' R' ⟨acc, z, rfl, hlen, hm, hi, he, rfl⟩
    rw [List.drop_length, onceD] at he
    refine dss_one (ds_retF ?_)
    walk_at "d"
    refine ⟨_, acc, rfl, snd_at, ?_⟩
    rw [snd_set]
    refine ret_same hR (lt_all fun d m => lt_mem hlt (hm d m)) ?_
    intro x' xs' e1 e2
    cases e1
    have : xs = xs' := hx.uniq e2
    subst this
    exact ⟨rfl, by rw [he]⟩
theorem sc_loose : FnScope ["stream", "thing", "some", "one"] ["stream", "thing"] (defScope s_law_loose) := ⟨rfl, rfl, rfl, by decide +kernel, rfl, by decide +kernel, by decide +kernel⟩
def LooseB : PostD := fun ds R d R' => ∀ (c : Nat) (S : Rs) (x : D), ds = [.own 1, x] → St R c S → St R' (c + x.dr) S ∧ d.norm = x.norm ∧ ∀ m, D.ok m x = true → D.ok m d = true
def LooseA (n : Nat) : PreD := fun ds R => ∃ (c : Nat) (S : Rs) (x : D), ds = [.own 1, x] ∧ St R c S ∧ c + x.sz < 2 ^ 40 ∧ D.ok n x = true ∧ x.sz < 1000000
theorem c_loose {W : World0} (T : Text W) : ∀ n, Cal W (2 + n) "_law_loose" 2 (LooseA n) LooseB ["stream", "thing"] := by
  intro n
  induction n with
  | zero =>
    refine cal_t T.d_law_loose sc_loose rfl (fun _ _ _ _ _ _ us hl => match us, hl with | [_, _], _ => rfl) ?_
    rintro ds R hl ⟨c, S, x, rfl, hS, hc, hx, hz⟩ hR hd f cd Ar outer s H E Fm
    rcases ok_row hx with ⟨xs, h3⟩ | ⟨hr, hn, hdr⟩
    · rw [h3.parts (n := 0) |>.2.2.2.2] at hx
      cases hx
    · walk_at "d"
      refine ⟨ok_live hx, ?_⟩
      rw [hr]
      walk_at "d"
      refine .same rfl hR (ok_lt 0 x hx) fun c' S' x' e1 e2 => ?_
      cases e1
      obtain ⟨rfl, rfl⟩ := hS.uniq e2
      rw [hdr]
      exact ⟨hS, rfl, fun _ h => h⟩
  | succ n ih =>
    refine cal_t T.d_law_loose sc_loose rfl (fun _ _ _ _ _ _ us hl => match us, hl with | [_, _], _ => rfl) ?_
    rintro ds R hl ⟨c, S, x, rfl, hS, hc, hx, hz⟩ hR hd f cd Ar outer s H E Fm
    rcases ok_row hx with ⟨xs, h3⟩ | ⟨hr, hn, hdr⟩
    · obtain ⟨p1, p2, p3, p4, _⟩ := h3.parts (n := n)
      rw [p3] at hx
      have hrow : x.row = true := (live3 (R := R) h3).2.1
      have hzl := szAll_len xs
      walk_at "d"
      refine ⟨(live3 h3).1, ?_⟩
      rw [hrow]
      walk_at "d"
      refine ds_setLc 2 Fm (by decide +kernel) (fun _ => rfl) (fun _ => rfl) (own := [("one", 3)]) (fun _ => blk_by (by kernel_rfl)) ?_
      refine di_3 Fm.toFam h3 ?_
      walk_at "d"
      refine ⟨rfl, ?_⟩
      refine ⟨fun i ys R' => i ≤ xs.length ∧ St R' (c + D.drAll (xs.take i)) S ∧ ys.length = i ∧ ys.map D.norm = (xs.take i).map D.norm ∧ ∀ m, D.okAll m (xs.take i) = true → D.okAll m ys = true,
        ⟨Nat.zero_le _, by simpa [D.drAll] using hS, rfl, rfl, fun _ h => h⟩, ?_, ?_, ?_⟩
      · rintro i ys R' ⟨hi, _, hlen, _⟩
        have z := sizeLine_eq
        exact ⟨trivial, by omega⟩
      · rintro i y ys R' hy ⟨hi, hS2, hlen, hnm, hokk⟩
        have hil := (List.getElem?_eq_some_iff.mp hy).1
        have hyx : y ∈ xs := List.mem_of_getElem? hy
        have htk : xs.take (i + 1) = xs.take i ++ [y] := by rw [List.take_succ, hy]; rfl
        have hdt := drAll_take xs i
        have hdl := D.drAll_le xs
        walk_at "d"
        refine de_call ih (by walk_at "fw") (Nat.le_refl _) (fun _ => rfl) ?_
        walk_at "d"
        have hsm := szAll_mem hyx
        have hds := drsz_take hy
        refine ⟨rfl, ⟨_, S, y, rfl, hS2, by omega, okAll_at hx y hyx, by omega⟩, ?_⟩
        rintro d R3 hB
        obtain ⟨hS3, hn3, ho3⟩ := hB _ _ _ rfl hS2
        refine ⟨hil, ?_, by simp [hlen], ?_, ?_⟩
        · rw [htk, drAll_app]
          simpa [D.drAll, Nat.add_assoc] using hS3
        · rw [htk, List.map_append, List.map_append, hnm]
          simp [hn3]
        · intro m hm
          rw [htk] at hm
          refine okAll_of fun d' hd' => ?_
          rcases List.mem_append.mp hd' with h | h
          · exact okAll_at (hokk m (okAll_of fun e he => okAll_at hm e (List.mem_append_left _ he))) d' h
          · rw [List.mem_singleton.mp h]
            exact ho3 m (okAll_at hm y (by simp))
      · rintro ys R' ⟨hi, hS2, hlen, hnm, hokk⟩
        rw [List.take_length] at hS2 hnm hokk
        walk_at "d"
        refine de_call (c_draw T) Fm (show 1 ≤ 2 + n by omega) (fun _ => rfl) ?_
        walk_at "d"
        have hdl := D.drAll_le xs
        refine ⟨rfl, ⟨_, S, 2, rfl, hS2, by omega, by omega, by omega⟩, ?_⟩
        rintro d R3 hB
        obtain ⟨hS3, r, rfl, hr0, hr1⟩ := hB _ _ _ rfl hS2
        walk_at "d"
        have fin : ∀ y : D, y.norm = .tup (ys.map D.norm) → (∀ m, D.ok (m + 1) y = D.okAll m ys) → D.ok 0 y = false → RetOk R.length (LooseB [.own 1, x] R) y R3 := by
          intro y hy1 hy2 hy3
          refine hS.ret (T := []) hR (by rw [List.append_nil]; exact hS3) (ok_lt (n + 1) y (by rw [hy2]; exact hokk n hx)) fun R4 h4 c' S' x' e1 e2 => ?_
          obtain ⟨rfl, rfl⟩ := hS.uniq e2
          cases e1
          refine ⟨by rw [p2]; exact h4, by rw [hy1, p4, hnm], fun m hm => ?_⟩
          cases m with
          | zero => rw [h3.parts (n := 0) |>.2.2.2.2] at hm; cases hm
          | succ m =>
            rw [h3.parts (n := m) |>.2.2.1] at hm
            rw [hy2]
            exact hokk m hm
        refine ⟨0, 0, rfl, rfl, by decide, fun _ => ?_, fun _ => ?_⟩
        · walk_at "d"
          exact fin _ (by rw [D.norm, normAll_map]) (fun _ => rfl) rfl
        · walk_at "d"
          refine ⟨ys, .lst, ?_⟩
          exact fin _ (by rw [D.norm, normAll_map]) (fun _ => rfl) rfl
    · walk_at "d"
      refine ⟨ok_live hx, ?_⟩
      rw [hr]
      walk_at "d"
      refine .same rfl hR (ok_lt (n + 1) x hx) fun c' S' x' e1 e2 => ?_
      cases e1
      obtain ⟨rfl, rfl⟩ := hS.uniq e2
      rw [hdr]
      exact ⟨hS, rfl, fun _ h => h⟩
theorem sc_same : FnScope ["found", "due", "mine", "theirs", "key"] ["found", "due"] (defScope s_law_same) := ⟨rfl, rfl, rfl, by decide +kernel, rfl, by decide +kernel, by decide +kernel⟩
def OwnOk (R : Rs) (x : D) : Prop := ∀ k, x = .own k → ∃ ds, R[k]? = some (.lst ds)
def SameA (n : Nat) : PreD := fun ds R => ∃ x y, ds = [x, y] ∧ OwnOk R x ∧ OwnOk R y ∧ D.ok n (x.see R) = true ∧ D.ok n (y.see R) = true ∧ (x.see R).kn = (y.see R).kn ∧ (x.see R).sz < 1000000 ∧ (y.see R).sz < 1000000
def SameB : PostD := fun ds R d R' => R' = R ∧ d = .bl true
theorem zip_same {n : Nat} {xs ys : List D} (hx : D.okAll n xs = true) (hy : D.okAll n ys = true) (he : xs.map D.kn = ys.map D.kn) {i : Nat} {d : D} (h : (zipD xs ys)[i]? = some d) : ∃ a b, d = .tup [a, b] ∧ a ∈ xs ∧ b ∈ ys ∧ D.ok n a = true ∧ D.ok n b = true ∧ a.kn = b.kn := by
  obtain ⟨a, b, h1, h2, rfl⟩ := zipD_at h
  refine ⟨a, b, rfl, List.mem_of_getElem? h1, List.mem_of_getElem? h2, okAll_at hx a (List.mem_of_getElem? h1), okAll_at hy b (List.mem_of_getElem? h2), ?_⟩
  have e1 : (xs.map D.kn)[i]? = some a.kn := by rw [List.getElem?_map, h1]; rfl
  have e2 : (ys.map D.kn)[i]? = some b.kn := by rw [List.getElem?_map, h2]; rfl
  rw [he, e2] at e1
  exact (Option.some.inj e1).symm
theorem c_same {W : World0} (T : Text W) : ∀ n, Cal W (1 + n) "_law_same" 2 (SameA n) SameB ["found", "due"] := by
  intro n
  induction n with
  | zero =>
    refine cal_t T.d_law_same sc_same rfl (fun _ _ _ _ _ _ us hl => match us, hl with | [_, _], _ => rfl) ?_
    rintro ds R hl ⟨x, y, rfl, ox, oy, hx, hy, he, zx, zy⟩ hR hd f cd Ar outer s H E Fm
    rcases kn_cases hx hy he with ⟨xs, ys, e1, e2, em⟩ | ⟨xs, ys, e1, e2, em⟩ | ⟨e1, hr⟩
    · rcases e1 with e | e <;> rw [e] at hx <;> cases hx
    · rw [e1] at hx; cases hx
    · obtain ⟨s1, o1⟩ := see_leaf hr hx
      obtain ⟨s2, o2⟩ := see_leaf (e1 ▸ hr) hy
      rw [s1, s2] at e1
      subst e1
      rw [s1] at hr
      have lv := ok_live (R := R) o1
      have hx0 : D.ok 0 (x.see R) = true := by rw [s1]; cases x <;> first | rfl | (cases hr; done) | (cases lv.1; done)
      obtain ⟨cd1, kd⟩ := kit_d x lv.1 "dict" (.inr (.inr (.inl rfl)))
      have kd2 : cd1 = false := by cases x <;> first | (cases hr; done) | (cases lv.1; done) | (cases kd; rfl)
      subst kd2
      obtain ⟨cb, kb⟩ := kit_d x lv.1 "bool" (.inr (.inr (.inr (.inl rfl))))
      have heq : PyData.eqv (x.see R).py (x.see R).py = true := SeqAt.eqv_refl_plain _ (D.ok_plain _ _ hx).1
      walk_at "d"
      refine ⟨lv, ?_⟩
      rw [hr]
      walk_at "d"
      refine ⟨lv, _, kd, ?_⟩
      walk_at "d"
      refine ⟨lv, _, kb, ?_⟩
      refine ⟨_, rfl, fun hk => ?_, fun hk => ?_⟩
      · subst hk
        walk_at "d"
        refine ⟨lv, _, kb, ?_⟩
        walk_at "d"
        refine ⟨lv, _, kb, ?_⟩
        walk_at "d"
        refine ⟨0, 0, hx0, hx0, by omega, ?_⟩
        rw [heq]
        exact .same rfl hR rfl ⟨rfl, rfl⟩
      · subst hk
        walk_at "d"
        refine ⟨lv, _, kb, ?_⟩
        walk_at "d"
        refine ⟨lv, ?_⟩
        rw [hr]
        walk_at "d"
        refine ⟨0, 0, hx0, hx0, by omega, ?_⟩
        rw [heq]
        exact .same rfl hR rfl ⟨rfl, rfl⟩
  | succ n ih =>
    refine cal_t T.d_law_same sc_same rfl (fun _ _ _ _ _ _ us hl => match us, hl with | [_, _], _ => rfl) ?_
    rintro ds R hl ⟨x, y, rfl, ox, oy, hx, hy, he, zx, zy⟩ hR hd f cd Ar outer s H E Fm
    rcases kn_cases hx hy he with ⟨xs, ys, e1, e2, em⟩ | ⟨xs, ys, e1, e2, em⟩ | ⟨e1, hr⟩
    · obtain ⟨l1, t1, v1, z1⟩ := see_lst e1 ox
      obtain ⟨l2, t2, v2, z2⟩ := see_lst e2 oy
      have hlen : xs.length = ys.length := by simpa using congrArg List.length em
      have okx : D.okAll n xs = true := by rcases e1 with e | e <;> rw [e] at hx <;> exact hx
      have oky : D.okAll n ys = true := by rcases e2 with e | e <;> rw [e] at hy <;> exact hy
      have zxs : D.szAll xs < 1000000 := by rcases e1 with e | e <;> rw [e] at zx <;> simp only [D.sz] at zx <;> omega
      have zys : D.szAll ys < 1000000 := by rcases e2 with e | e <;> rw [e] at zy <;> simp only [D.sz] at zy <;> omega
      walk_at "d"
      refine ⟨v2, ?_⟩
      rw [show y.row = true by unfold D.row; rw [t2]; rfl]
      walk_at "d"
      refine ⟨v1, true, by rw [t1]; rfl, ?_⟩
      walk_at "d"
      refine ⟨v2, true, by rw [t2]; rfl, ?_⟩
      refine ⟨0, 0, rfl, rfl, by decide, ?_⟩
      walk_at "d"
      refine ⟨v1, false, by rw [t1]; rfl, ?_⟩
      walk_at "d"
      refine ⟨v2, false, by rw [t2]; rfl, ?_⟩
      refine ⟨0, 0, rfl, rfl, by decide, ?_⟩
      walk_at "d"
      refine ⟨_, z1, ?_⟩
      walk_at "d"
      refine ⟨_, z2, ?_⟩
      refine ⟨0, 0, rfl, rfl, by decide, ?_⟩
      refine ⟨true, by show D.bl (((xs.length : Nat) : Int) == ((ys.length : Nat) : Int)) = _; rw [hlen]; simp, ?_⟩
      walk_at "d"
      refine de_lc (own := [("mine", 2), ("theirs", 3)]) Fm (fun _ => blk_by (by kernel_rfl)) ?_
      refine di_zip Fm.toFam (fun _ => rfl) T.bl.zip ?_
      walk_at "d"
      refine ⟨x, y, xs, ys, rfl, l1, l2, ?_⟩
      refine ⟨fun i bs R' => i ≤ xs.length ∧ R' = R ∧ bs = List.replicate i (.bl true), ⟨Nat.zero_le _, rfl, rfl⟩, ?_, ?_, ?_⟩
      · rintro i bs R' ⟨hi, rfl, rfl⟩
        have z := sizeLine_eq
        have := szAll_len xs
        exact ⟨⟨l1, l2⟩, by simp; omega⟩
      · rintro i d bs R' hd2 ⟨hi, rfl, rfl⟩
        obtain ⟨a, b, rfl, ma, mb, oa, ob, hk⟩ := zip_same okx oky em hd2
        have hil : i < xs.length := by
          have := (List.getElem?_eq_some_iff.mp hd2).1
          rw [zipD_len] at this
          omega
        refine dgw_tup (by walk_at "fm") (.inl rfl) rfl ?_
        walk_at "d"
        refine de_call ih (by walk_at "fw") (Nat.le_refl _) (fun _ => rfl) ?_
        walk_at "d"
        have za := szAll_mem ma
        have zb := szAll_mem mb
        refine ⟨rfl, ⟨a, b, rfl, fun k e => (by subst e; cases n <;> cases oa), fun k e => (by subst e; cases n <;> cases ob), by rw [see_ok R' oa]; exact oa, by rw [see_ok R' ob]; exact ob, by rw [see_ok R' oa, see_ok R' ob]; exact hk, by rw [see_ok R' oa]; omega, by rw [see_ok R' ob]; omega⟩, ?_⟩
        rintro d R3 ⟨rfl, rfl⟩
        exact ⟨hil, rfl, by rw [List.replicate_succ']⟩
      · rintro bs R' ⟨_, rfl, rfl⟩
        refine ⟨List.replicate (zipD xs ys).length true, .inl (by rw [List.map_replicate]), ?_⟩
        exact .same rfl hR rfl ⟨rfl, by simp⟩
    · have f1 := see_tup e1
      have f2 := see_tup e2
      subst f1 f2
      have v1 : Live R (.tup xs) := ⟨rfl, nofun⟩
      have v2 : Live R (.tup ys) := ⟨rfl, nofun⟩
      have z1 : (D.tup xs).size R = some xs.length := rfl
      have z2 : (D.tup ys).size R = some ys.length := rfl
      have hlen : xs.length = ys.length := by simpa using congrArg List.length em
      have okx : D.okAll n xs = true := hx
      have oky : D.okAll n ys = true := hy
      have zxs : D.szAll xs < 1000000 := by simp only [D.see, D.sz] at zx; omega
      have zys : D.szAll ys < 1000000 := by simp only [D.see, D.sz] at zy; omega
      walk_at "d"
      refine ⟨v2, ?_⟩
      rw [show (D.tup ys).row = true from rfl]
      walk_at "d"
      refine ⟨v1, false, rfl, ?_⟩
      walk_at "d"
      refine ⟨v2, false, rfl, ?_⟩
      refine ⟨0, 0, rfl, rfl, by decide, ?_⟩
      walk_at "d"
      refine ⟨v1, true, rfl, ?_⟩
      walk_at "d"
      refine ⟨v2, true, rfl, ?_⟩
      refine ⟨0, 0, rfl, rfl, by decide, ?_⟩
      walk_at "d"
      refine ⟨0, 0, rfl, rfl, by decide, ?_⟩
      refine ⟨true, by show D.bl (((xs.length : Nat) : Int) == ((ys.length : Nat) : Int)) = _; rw [hlen]; simp, ?_⟩
      walk_at "d"
      refine de_lc (own := [("mine", 2), ("theirs", 3)]) Fm (fun _ => blk_by (by kernel_rfl)) ?_
      refine di_zipT Fm.toFam (fun _ => rfl) T.bl.zip ?_
      walk_at "d"
      refine ⟨xs, ys, rfl, ?_⟩
      refine ⟨fun i bs R' => i ≤ xs.length ∧ R' = R ∧ bs = List.replicate i (.bl true), ⟨Nat.zero_le _, rfl, rfl⟩, ?_, ?_, ?_⟩
      · rintro i bs R' ⟨hi, rfl, rfl⟩
        have z := sizeLine_eq
        have := szAll_len xs
        exact ⟨trivial, by simp; omega⟩
      · rintro i d bs R' hd2 ⟨hi, rfl, rfl⟩
        obtain ⟨a, b, rfl, ma, mb, oa, ob, hk⟩ := zip_same okx oky em hd2
        have hil : i < xs.length := by
          have := (List.getElem?_eq_some_iff.mp hd2).1
          rw [zipD_len] at this
          omega
        refine dgw_tup (by walk_at "fm") (.inl rfl) rfl ?_
        walk_at "d"
        refine de_call ih (by walk_at "fw") (Nat.le_refl _) (fun _ => rfl) ?_
        walk_at "d"
        have za := szAll_mem ma
        have zb := szAll_mem mb
        refine ⟨rfl, ⟨a, b, rfl, fun k e => (by subst e; cases n <;> cases oa), fun k e => (by subst e; cases n <;> cases ob), by rw [see_ok R' oa]; exact oa, by rw [see_ok R' ob]; exact ob, by rw [see_ok R' oa, see_ok R' ob]; exact hk, by rw [see_ok R' oa]; omega, by rw [see_ok R' ob]; omega⟩, ?_⟩
        rintro d R3 ⟨rfl, rfl⟩
        exact ⟨hil, rfl, by rw [List.replicate_succ']⟩
      · rintro bs R' ⟨_, rfl, rfl⟩
        refine ⟨List.replicate (zipD xs ys).length true, .inl (by rw [List.map_replicate]), ?_⟩
        exact .same rfl hR rfl ⟨rfl, by simp⟩
    · obtain ⟨s1, o1⟩ := see_leaf hr hx
      obtain ⟨s2, o2⟩ := see_leaf (e1 ▸ hr) hy
      rw [s1, s2] at e1
      subst e1
      rw [s1] at hr
      have lv := ok_live (R := R) o1
      have hx0 : D.ok 0 (x.see R) = true := by rw [s1]; cases x <;> first | rfl | (cases hr; done) | (cases lv.1; done)
      obtain ⟨cd1, kd⟩ := kit_d x lv.1 "dict" (.inr (.inr (.inl rfl)))
      have kd2 : cd1 = false := by cases x <;> first | (cases hr; done) | (cases lv.1; done) | (cases kd; rfl)
      subst kd2
      obtain ⟨cb, kb⟩ := kit_d x lv.1 "bool" (.inr (.inr (.inr (.inl rfl))))
      have heq : PyData.eqv (x.see R).py (x.see R).py = true := SeqAt.eqv_refl_plain _ (D.ok_plain _ _ hx).1
      walk_at "d"
      refine ⟨lv, ?_⟩
      rw [hr]
      walk_at "d"
      refine ⟨lv, _, kd, ?_⟩
      walk_at "d"
      refine ⟨lv, _, kb, ?_⟩
      refine ⟨_, rfl, fun hk => ?_, fun hk => ?_⟩
      · subst hk
        walk_at "d"
        refine ⟨lv, _, kb, ?_⟩
        walk_at "d"
        refine ⟨lv, _, kb, ?_⟩
        walk_at "d"
        refine ⟨0, 0, hx0, hx0, by omega, ?_⟩
        rw [heq]
        exact .same rfl hR rfl ⟨rfl, rfl⟩
      · subst hk
        walk_at "d"
        refine ⟨lv, _, kb, ?_⟩
        walk_at "d"
        refine ⟨lv, ?_⟩
        rw [hr]
        walk_at "d"
        refine ⟨0, 0, hx0, hx0, by omega, ?_⟩
        rw [heq]
        exact .same rfl hR rfl ⟨rfl, rfl⟩
theorem sc_spoilt : FnScope ["thing", "part"] ["thing"] (defScope s_law_spoilt) := ⟨rfl, rfl, rfl, by decide +kernel, rfl, by decide +kernel, by decide +kernel⟩
def SpA (n : Nat) : PreD := fun ds R => ∃ x, ds = [x] ∧ (D.tt n x = true ∨ ∃ m k xs, n = m + 1 ∧ x = .own k ∧ R[k]? = some (.lst xs) ∧ D.ttAll m xs = true ∧ xs.length < 1000000)
def SpB : PostD := fun ds R d R' => d = .non ∧ ∀ x, ds = [x] → ((∃ n, D.tt n x = true) → R' = R) ∧ (∀ k xs, x = .own k → R[k]? = some (.lst xs) → R' = R.set k (.lst (xs ++ [.str "late"])))
theorem c_spoilt {W : World0} (T : Text W) : ∀ n, Cal W (1 + n) "_law_spoilt" 1 (SpA n) SpB ["thing"] := by
  intro n
  induction n with
  | zero =>
    refine cal_t T.d_law_spoilt sc_spoilt rfl (fun _ _ _ _ _ _ us hl => match us, hl with | [_], _ => rfl) ?_
    rintro ds R hl ⟨x, rfl, hx | ⟨m, _, _, h, _⟩⟩ hR hd f cd Ar outer s H E Fm
    · rcases tt_cases hx with ⟨m, _, h, _⟩ | ⟨hr, h0⟩
      · cases h
      · walk_at "d"
        refine ⟨ok_live h0, ?_⟩
        rw [hr]
        walk_at "d"
        refine .same rfl hR rfl ⟨rfl, fun x' e => ⟨fun _ => rfl, fun k xs e2 => ?_⟩⟩
        cases e
        subst e2
        cases hx
    · cases h
  | succ n ih =>
    refine cal_t T.d_law_spoilt sc_spoilt rfl (fun _ _ _ _ _ _ us hl => match us, hl with | [_], _ => rfl) ?_
    rintro ds R hl ⟨x, rfl, hx | ⟨m, k, xs, h, rfl, hk, hxs, hz⟩⟩ hR hd f cd Ar outer s H E Fm
    · rcases tt_cases hx with ⟨m, xs, h, rfl, hxs⟩ | ⟨hr, h0⟩
      · cases h
        walk_at "d"
        refine ⟨⟨rfl, nofun⟩, ?_⟩
        rw [show (D.tup xs).row = true from rfl]
        walk_at "d"
        refine ds_for Fm.toFam ?_
        refine di_3 (x := .tup xs) (ds := xs) Fm.toFam (.inl rfl) ?_
        walk_at "d"
        refine ⟨rfl, fun i ρ' R' => R' = R ∧ ∃ z, ρ' = [some (.tup xs), z], ⟨rfl, _, rfl⟩, fun _ _ _ _ => trivial, ?_, ?_⟩
        · rintro i y ρ' R' hy ⟨rfl, z, rfl⟩
          walk_at "d"
          refine de_call ih (by walk_at "fw") (Nat.le_refl _) (fun _ => rfl) ?_
          walk_at "d"
          have ty := ttAll_at hxs y (List.mem_of_getElem? hy)
          refine ⟨rfl, ⟨y, rfl, .inl ty⟩, ?_⟩
          rintro d R3 ⟨rfl, hB⟩
          have := (hB y rfl).1 ⟨_, ty⟩
          subst this
          exact ⟨rfl, _, rfl⟩
        · rintro ρ' R' ⟨rfl, z, rfl⟩
          walk_at "d"
          refine ⟨⟨rfl, nofun⟩, false, rfl, ?_⟩
          walk_at "d"
          refine .same rfl hR rfl ⟨rfl, fun x' e => ⟨fun _ => rfl, fun k xs e2 => ?_⟩⟩
          cases e
          cases e2
      · walk_at "d"
        refine ⟨ok_live h0, ?_⟩
        rw [hr]
        walk_at "d"
        refine .same rfl hR rfl ⟨rfl, fun x' e => ⟨fun _ => rfl, fun k xs e2 => ?_⟩⟩
        cases e
        subst e2
        cases hx
    · cases h
      have lv : ∀ {R' : Rs}, R'[k]? = some (.lst xs) → Live R' (.own k) := fun e => ⟨rfl, fun j ej => by cases ej; exact ⟨_, e⟩⟩
      walk_at "d"
      refine ⟨lv hk, ?_⟩
      rw [show (D.own k).row = true from rfl]
      walk_at "d"
      refine ds_for Fm.toFam ?_
      refine di_list Fm.toFam ?_
      walk_at "d"
      refine ⟨xs, .own hk, fun i ρ' R' => R' = R ∧ ∃ z, ρ' = [some (.own k), z], ⟨rfl, _, rfl⟩, fun i ρ' R' ⟨e, _⟩ => by subst e; exact .own hk, ?_, ?_⟩
      · rintro i y ρ' R' hy ⟨rfl, z, rfl⟩
        walk_at "d"
        refine de_call ih (by walk_at "fw") (Nat.le_refl _) (fun _ => rfl) ?_
        walk_at "d"
        have ty := ttAll_at hxs y (List.mem_of_getElem? hy)
        refine ⟨rfl, ⟨y, rfl, .inl ty⟩, ?_⟩
        rintro d R3 ⟨rfl, hB⟩
        have := (hB y rfl).1 ⟨_, ty⟩
        subst this
        exact ⟨rfl, _, rfl⟩
      · rintro ρ' R' ⟨rfl, z, rfl⟩
        walk_at "d"
        refine ⟨lv hk, true, rfl, ?_⟩
        walk_at "d"
        refine ⟨k, xs, rfl, hk, ?_⟩
        walk_at "d"
        refine ⟨xs, hk, by rw [sizeLine_eq]; omega, ?_⟩
        walk_at "d"
        refine .same (by simp) ?_ rfl ⟨rfl, fun x' e => ⟨fun ⟨n, h⟩ => ?_, fun k' xs' e1 e2 => ?_⟩⟩
        · refine set_lt hR (lt_all fun d m => ?_)
          rcases List.mem_append.mp m with m | m
          · exact ok_lt _ d (tt_ok _ d (ttAll_at hxs d m))
          · rw [List.mem_singleton.mp m]; rfl
        · cases e
          cases n <;> cases h
        · cases e
          cases e1
          rw [hk] at e2
          cases e2
          rfl
theorem kd_word (k : Kd) : PyData.eqv (D.py (.str (kindS k))) (D.py (.str "word")) = false := by cases k <;> decide +kernel
theorem kd_owned (k : Kd) : ((D.pyAll [.str "cipher", .str "seal", .str "label"]).any fun z => PyData.eqv z (D.py (.str (kindS k)))) = true := by cases k <;> decide +kernel
def LysOk (ls : List Ly) : Prop := (∀ l ∈ ls, l.ok = true) ∧ ls.length < 1000000
theorem lys_inj : ∀ {ls ms : List Ly}, ls.map Ly.d = ms.map Ly.d → ls = ms
  | [], [], _ => rfl
  | [], _ :: _, h => by simp at h
  | _ :: _, [], h => by simp at h
  | l :: ls, m :: ms, h => by
    simp only [List.map_cons, List.cons.injEq] at h
    rw [ly_inj h.1, lys_inj h.2]
theorem lys_at {ls : List Ly} {i : Nat} {y : D} (h : (ls.map Ly.d)[i]? = some y) : ∃ l, ls[i]? = some l ∧ y = l.d := by
  rw [List.getElem?_map] at h
  obtain ⟨l, h1, h2⟩ := Option.map_eq_some_iff.mp h
  exact ⟨l, h1, h2.symm⟩
theorem norm_at {ys : List D} {ls : List Ly} (h : ys.map D.norm = ls.map Ly.d) {i : Nat} {y : D} (hy : ys[i]? = some y) : ∃ l, ls[i]? = some l ∧ y.norm = l.d := by
  have e : (ys.map D.norm)[i]? = some y.norm := by rw [List.getElem?_map, hy]; rfl
  rw [h] at e
  obtain ⟨l, h1, h2⟩ := lys_at e
  exact ⟨l, h1, h2⟩
/-- the agents that are noted -/
def Noted (kvs : List (Key × D)) : Prop := ∀ p ∈ kvs, p.2 = .bl true
theorem noted_lt {n : Nat} {kvs : List (Key × D)} (h : Noted kvs) : (Dic.k kvs).lt n = true := by
  show D.ltAll n (kvs.map (·.2)) = true
  refine lt_all fun d m => ?_
  obtain ⟨p, hp, rfl⟩ := List.mem_map.mp m
  rw [h p hp]
  rfl
theorem noted_more {kvs : List (Key × D)} {k : Key} (h : Noted kvs) : Noted (kvs ++ [(k, .bl true)]) := fun p hp => by
  rcases List.mem_append.mp hp with hp | hp
  · exact h p hp
  · rw [List.mem_singleton.mp hp]
def KnA : PreD := fun ds R => ∃ (x : D) (ls : List Ly) (k : Nat) (kvs : List (Key × D)), ds = [x, .own k, .bl true] ∧ x.norm = .tup (ls.map Ly.d) ∧ LysOk ls ∧ R[k]? = some (.dic (.k kvs)) ∧ Noted kvs ∧ kvs.length < 1000000
def KnB : PostD := fun ds R d R' => ∀ (x : D) (ls : List Ly) (k : Nat) (kvs : List (Key × D)), ds = [x, .own k, .bl true] → x.norm = .tup (ls.map Ly.d) → R[k]? = some (.dic (.k kvs)) → d = .lst (ls.map Ly.d) ∧ ∃ kvs', R' = R.set k (.dic (.k kvs')) ∧ Noted kvs' ∧ kvs'.length ≤ kvs.length + ls.length
section
variable {R : Rs} {k : Nat} {r r' q q' : Res}
theorem pl_at (h : k < R.length) : (R.set k r ++ [q])[k]? = some r := by
  rw [List.getElem?_append_left (by rw [List.length_set]; exact h), List.getElem?_set_self h]
theorem pl_end : (R.set k r ++ [q])[R.length]? = some q := by
  have e : (R.set k r).length = R.length := List.length_set
  rw [← e]
  exact snd_at
theorem pl_set (h : k < R.length) : (R.set k r ++ [q]).set k r' = R.set k r' ++ [q] := by
  rw [List.set_append_left _ _ (by rw [List.length_set]; exact h), List.set_set]
theorem pl_endset : (R.set k r ++ [q]).set R.length q' = R.set k r ++ [q'] := by
  have e : (R.set k r).length = R.length := List.length_set
  rw [← e]
  exact snd_set
theorem pl_same (h : R[k]? = some r) : R.set k r = R := by
  obtain ⟨h1, h2⟩ := List.getElem?_eq_some_iff.mp h
  rw [← h2]
  exact List.set_getElem_self h1
end
theorem sc_known : FnScope ["thing", "known", "more", "layers", "layer", "kind", "whose"] ["thing", "known", "more"] (defScope s_as_known_layers) := ⟨rfl, rfl, rfl, by decide +kernel, rfl, by decide +kernel, by decide +kernel⟩
theorem c_known {W : World0} (T : Text W) : Cal W 3 "as_known_layers" 3 KnA KnB ["thing", "known", "more"] := by
  refine cal_t T.d_as_known_layers sc_known rfl (fun _ _ _ _ _ _ us hl => match us, hl with | [_, _, _], _ => rfl) ?_
  rintro ds R hl ⟨x, ls, k, kvs, rfl, hx, hok, hk, hn, hz⟩ hR hd f cd Ar outer s H E Fm
  obtain ⟨ys, h3, hys⟩ := norm_tup hx
  obtain ⟨lv, hr, _⟩ := live3 (R := R) h3
  have hlen : ys.length = ls.length := by simpa using congrArg List.length hys
  obtain ⟨ow, mo, ho⟩ := T.owned
  obtain ⟨tw, mw⟩ := T.c_WORDS
  refine dss_cons ?_
  refine ds_if ?_
  refine t_notRow (d := x) T.bl Fm.toFam (fun _ => rfl) (fun _ => rfl) (fun _ => rfl) T.bl.list T.bl.tuple (by decide +kernel) (by decide +kernel) ?_ ?_ lv (kit_row h3).1 ?_
  · walk_at "d"
    exact ⟨rfl, rfl⟩
  · walk_at "d"
    exact ⟨rfl, rfl⟩
  walk_at "d"
  refine de_lstO ?_
  walk_at "d"
  have hkl : k < R.length := (List.getElem?_eq_some_iff.mp hk).1
  refine ds_for Fm.toFam ?_
  refine di_3 Fm.toFam h3 ?_
  walk_at "d"
  refine ⟨rfl, ?_⟩
  refine ⟨fun i ρ' R' => ∃ (kvs' : List (Key × D)) (a b c : Option D), R' = R.set k (.dic (.k kvs')) ++ [.lst ((ls.take i).map Ly.d)] ∧ Noted kvs' ∧ kvs'.length ≤ kvs.length + i ∧ i ≤ ls.length ∧ ρ' = [some x, some (.own k), some (.bl true), some (.own R.length), a, b, c],
    ⟨kvs, none, none, none, by rw [pl_same hk]; rfl, hn, Nat.le_refl _, Nat.zero_le _, rfl⟩, fun _ _ _ _ => trivial, ?_, ?_⟩
  · rintro i y ρ' R' hy ⟨kvs', a, b, c, rfl, hn', hz', hi, rfl⟩
    obtain ⟨l, h1, h2⟩ := norm_at hys hy
    have hlo : l.ok = true := hok.1 l (List.mem_of_getElem? h1)
    have hil := (List.getElem?_eq_some_iff.mp h1).1
    have hl2 := hok.2
    obtain ⟨zs, hy3, rfl⟩ := ly_at h2
    generalize hRR : R.set k (.dic (.k kvs')) ++ [Res.lst ((ls.take i).map Ly.d)] = RR
    have lvy := (live3 (R := RR) hy3).1
    repeat (first | walk_at "s1" | walk_at "x1")
    refine DW.dt (dw_or ?_)
    refine t_notRow (d := y) T.bl Fm.toFam (fun _ => rfl) (fun _ => rfl) (fun _ => rfl) T.bl.tuple T.bl.list (by decide +kernel) (by decide +kernel) ?_ ?_ lvy (kit_row hy3).2 ?_
    · walk_at "d"
      exact ⟨rfl, rfl⟩
    · walk_at "d"
      exact ⟨rfl, rfl⟩
    walk_at "d"
    refine ⟨_, (live3 (R := RR) hy3).2.2, ?_⟩
    walk_at "d"
    refine ⟨0, 0, rfl, rfl, by decide, ?_⟩
    walk_at "d"
    refine dg_tup3 Fm.toFam hy3 rfl ?_
    walk_at "d"
    refine ⟨live_at rfl (fun _ => nofun), true, rfl, ?_⟩
    walk_at "d"
    refine ⟨0, 0, rfl, rfl, by decide, ?_⟩
    have hkR : RR[k]? = some (.dic (.k kvs')) := by rw [← hRR]; exact pl_at hkl
    have hst : ∀ {l2 : Ly}, ls[i]? = some l2 → (ls.take i).map Ly.d ++ [l2.d] = (ls.take (i + 1)).map Ly.d := fun e => by rw [List.take_succ, e]; simp
    cases l with
    | word n =>
      rw [show PyData.eqv ((D.str (Ly.word n).k).see RR).py ((D.str "word").see RR).py = true from rfl]
      have hn2 : n < 10 := of_decide_eq_true hlo
      walk_at "d"
      refine ⟨live_at rfl (fun _ => nofun), true, rfl, ?_⟩
      walk_at "d"
      refine ⟨by omega, ?_⟩
      refine de_glo Fm.toFam (fun _ => rfl) mw (v := .int 10) ⟨_, rfl⟩ (fun _ _ => .int 10) ?_
      refine ⟨10, rfl, ?_⟩
      rw [decide_eq_true (show ((n : Nat) : Int) < 10 by omega)]
      walk_at "d"
      refine ⟨_, _, rfl, by rw [← hRR]; exact pl_end, ?_⟩
      walk_at "d"
      refine ⟨_, by rw [← hRR]; exact pl_end, by rw [sizeLine_eq]; simp; omega, ?_⟩
      rw [← hRR, pl_endset, show D.tup [D.str (Ly.word n).k, (Ly.word n).w] = (Ly.word n).d from rfl, hst h1]
      exact ⟨kvs', _, _, _, rfl, hn', by omega, hil, rfl⟩
    | own kd z =>
      rw [show PyData.eqv ((D.str (Ly.own kd z).k).see RR).py ((D.str "word").see RR).py = false from kd_word kd]
      walk_at "d"
      refine ⟨live_at rfl (fun _ => nofun), true, rfl, ?_⟩
      walk_at "d"
      refine de_glo Fm.toFam (fun _ => rfl) mo (v := .ref ow) rfl ho ?_
      refine ⟨0, 0, [.str "cipher", .str "seal", .str "label"], rfl, by decide, .inr rfl, by decide, ?_⟩
      rw [show ((D.pyAll [.str "cipher", .str "seal", .str "label"]).any fun y => PyData.eqv y ((D.str (Ly.own kd z).k).see RR).py) = true from kd_owned kd]
      repeat (first | walk_at "s1" | walk_at "x1")
      refine t_notInK Fm.toFam ?_ (by with_unfolding_all rfl)
      walk_at "d"
      refine ⟨k, kvs', .inr z, rfl, rfl, hkR, ?_⟩
      cases hh : hasK kvs' (.inr z) with
      | true =>
        walk_at "d"
        refine ⟨_, _, rfl, by rw [← hRR]; exact pl_end, ?_⟩
        walk_at "d"
        refine ⟨_, by rw [← hRR]; exact pl_end, by rw [sizeLine_eq]; simp; omega, ?_⟩
        rw [← hRR, pl_endset, show D.tup [D.str (Ly.own kd z).k, (Ly.own kd z).w] = (Ly.own kd z).d from rfl, hst h1]
        exact ⟨kvs', _, _, _, rfl, hn', by omega, hil, rfl⟩
      | false =>
        walk_at "d"
        refine de_call (c_agents_text T) Fm (by decide) (fun _ => rfl) ?_
        walk_at "d"
        refine ⟨rfl, ⟨z, rfl, hlo⟩, ?_⟩
        rintro d R3 ⟨rfl, rfl⟩
        repeat (first | walk_at "sx" | walk_at "x1")
        refine ds_dputK Fm.toFam ?_
        walk_at "d"
        refine ⟨k, kvs', .inr z, rfl, hkR, rfl, hh, by rw [sizeLine_eq]; omega, ?_⟩
        rw [← hRR, pl_set hkl]
        walk_at "d"
        refine ⟨_, _, rfl, pl_end, ?_⟩
        walk_at "d"
        refine ⟨_, pl_end, by rw [sizeLine_eq]; simp; omega, ?_⟩
        rw [pl_endset, show D.tup [D.str (Ly.own kd z).k, (Ly.own kd z).w] = (Ly.own kd z).d from rfl, hst h1]
        exact ⟨_, _, _, _, rfl, noted_more hn', by simp; omega, hil, rfl⟩
  · rintro ρ' R' ⟨kvs', a, b, c, rfl, hn', hz', hi, rfl⟩
    rw [hlen, List.take_length]
    refine dss_one ?_
    refine ds_retF ?_
    walk_at "d"
    refine ⟨_, _, rfl, pl_end, ?_⟩
    rw [pl_endset]
    refine .cut (R.set k (.dic (.k kvs'))) [.gone] rfl (by rw [List.length_set]) ?_ (lys_lt _ ls) ?_
    · intro r hr
      rcases List.mem_or_eq_of_mem_set hr with hr | rfl
      · exact hR r hr
      · exact noted_lt hn'
    · intro x' ls' k' kvs'' e1 e2 e3
      cases e1
      rw [hx] at e2
      injection e2 with e2
      rw [hk] at e3
      cases e3
      exact ⟨by rw [e2], kvs', rfl, hn', by rw [← lys_inj e2]; omega⟩
theorem c_as_layers {W : World0} (T : Text W) : Cal W 5 "as_layers" 2 (fun ds R => ∃ (x : D) (ls : List Ly), ds = [x, .non] ∧ x.norm = .tup (ls.map Ly.d) ∧ LysOk ls)
    (fun ds R d R' => R' = R ∧ ∀ (x : D) (ls : List Ly), ds = [x, .non] → x.norm = .tup (ls.map Ly.d) → d = .lst (ls.map Ly.d)) ["thing", "agents"] := by
  refine cal_t T.d_as_layers ⟨rfl, rfl, rfl, by decide +kernel, rfl, by decide +kernel, by decide +kernel⟩ rfl (fun _ _ _ _ _ _ us hl => match us, hl with | [_, _], _ => rfl) (N := ["thing", "agents"]) ?_
  rintro ds R hl ⟨x, ls, rfl, hx, hok⟩ hR hd f cd Ar outer s H E Fm
  walk_at "d"
  refine de_call (c_known T) Fm (by decide) (fun _ => rfl) ?_
  walk_at "d"
  refine de_dict0 ?_
  walk_at "d"
  have hk : (R ++ [Res.dic (.k [])])[R.length]? = some (.dic (.k [])) := snd_at
  refine ⟨rfl, ⟨x, ls, R.length, [], rfl, hx, hok, hk, nofun, by decide⟩, ?_⟩
  rintro d R2 hB
  obtain ⟨rfl, kvs', rfl, hn, _⟩ := hB x ls R.length [] rfl hx hk
  rw [snd_set]
  refine .cut R [_] rfl rfl hR (lys_lt _ ls) ⟨rfl, fun x' ls' e1 e2 => ?_⟩
  cases e1
  rw [hx] at e2
  injection e2 with e2
  rw [e2]
theorem sc_begins : FnScope ["layers", "takes"] ["layers", "takes"] (defScope s_begins_with) := ⟨rfl, rfl, rfl, by decide +kernel, rfl, by decide +kernel, by decide +kernel⟩
theorem cut_take (ds : List D) (n : Nat) : DL.cutD ds none (some (n : Int)) = ds.take n := by
  unfold DL.cutD
  have h1 : HT.sIx ds.length 0 none = 0 := rfl
  rw [h1, List.drop_zero, Nat.sub_zero, HT.sIx_nat]
  by_cases h : n ≤ ds.length
  · rw [Nat.min_eq_left h]
  · rw [Nat.min_eq_right (by omega), List.take_length, List.take_of_length_le (by omega)]
structure Ru where
  ts : List Ly
  ps : List Ly
  mv : D
def Ru.d (r : Ru) : D := .tup [.lst (r.ts.map Ly.d), .lst (r.ps.map Ly.d), r.mv]
def Ru.ok (r : Ru) : Prop := LysOk r.ts ∧ LysOk r.ps ∧ D.ok 2 r.mv = true
def RuIs (x : D) (r : Ru) : Prop := ∃ y1 y2, Is3 x [y1, y2, r.mv] ∧ y1.norm = .tup (r.ts.map Ly.d) ∧ y2.norm = .tup (r.ps.map Ly.d)
theorem RuIs.uniq {x : D} {r r' : Ru} (h : RuIs x r) (h' : RuIs x r') : r = r' := by
  obtain ⟨y1, y2, a, b, c⟩ := h
  obtain ⟨z1, z2, a', b', c'⟩ := h'
  have e := Seq.uniq (seq3 (R := []) a) (seq3 a')
  simp only [List.cons.injEq, and_true] at e
  obtain ⟨rfl, rfl, e3⟩ := e
  rw [b] at b'
  rw [c] at c'
  injection b' with b'
  injection c' with c'
  have b2 := lys_inj b'
  have c2 := lys_inj c'
  cases r; cases r'
  simp only at e3 b2 c2
  rw [e3, b2, c2]
theorem Ru.okd {r : Ru} (h : r.ok) : D.ok 3 r.d = true := by
  have h1 := lys_tt r.ts
  have h2 := lys_tt r.ps
  refine okAll_of fun d m => ?_
  simp only [List.mem_cons, List.not_mem_nil, or_false] at m
  rcases m with rfl | rfl | rfl
  · exact ttAll_ok 1 _ h1
  · exact ttAll_ok 1 _ h2
  · exact h.2.2
def RusIs : List D → List Ru → Prop
  | [], [] => True
  | x :: xs, r :: rs => RuIs x r ∧ RusIs xs rs
  | _, _ => False
theorem RusIs.len : ∀ {xs : List D} {rs : List Ru}, RusIs xs rs → xs.length = rs.length
  | [], [], _ => rfl
  | _ :: _, _ :: _, h => congrArg Nat.succ h.2.len
theorem RusIs.get : ∀ {xs : List D} {rs : List Ru}, RusIs xs rs → ∀ {i : Nat} {x : D}, xs[i]? = some x → ∃ r, rs[i]? = some r ∧ RuIs x r
  | [], [], _, _, _, h => by simp at h
  | _ :: _, r :: _, h, 0, _, e => by cases e; exact ⟨r, rfl, h.1⟩
  | _ :: _, _ :: _, h, _ + 1, _, e => h.2.get e
theorem RusIs.uniq : ∀ {xs : List D} {rs rs' : List Ru}, RusIs xs rs → RusIs xs rs' → rs = rs'
  | [], [], [], _, _ => rfl
  | _ :: _, _ :: _, _ :: _, h, h' => by rw [h.1.uniq h'.1, h.2.uniq h'.2]
def Ru.sz (r : Ru) : Nat := r.ts.length + r.ps.length
def tot : List Ru → Nat
  | [] => 0
  | r :: rs => r.sz + tot rs
theorem tot_take : ∀ {rs : List Ru} {i : Nat} {r : Ru}, rs[i]? = some r → tot (rs.take i) + r.sz ≤ tot rs ∧ tot (rs.take (i + 1)) = tot (rs.take i) + r.sz
  | [], _, _, h => by simp at h
  | q :: rs, 0, r, h => by
    cases h
    simp [tot]
  | q :: rs, i + 1, r, h => by
    obtain ⟨h1, h2⟩ := tot_take (rs := rs) (i := i) (r := r) (by simpa using h)
    simp only [List.take_succ_cons, tot]
    rw [h2]
    exact ⟨by omega, by omega⟩
def RusOk (rs : List Ru) : Prop := (∀ r ∈ rs, r.ok) ∧ rs.length < 1000000 ∧ tot rs < 900000
theorem live_seq {R : Rs} {x : D} {xs : List D} (h : Seq R x xs) : Live R x ∧ x.row = true ∧ x.size R = some xs.length := by
  rcases h with (rfl | rfl | ⟨k, rfl, hk⟩) | rfl
  · exact live3 (.inr (.inl rfl))
  · exact live3 (.inr (.inr rfl))
  · exact ⟨⟨rfl, fun j ej => by cases ej; exact ⟨_, hk⟩⟩, rfl, by simp [D.size, hk]⟩
  · exact live3 (.inl rfl)
theorem rus_take {rs : List Ru} {i : Nat} {r : Ru} (h : rs[i]? = some r) : (rs.take i).map Ru.d ++ [r.d] = (rs.take (i + 1)).map Ru.d := by rw [List.take_succ, h]; simp
section
variable {R : Rs} {p q p' q' : Res}
theorem p2_a : (R ++ [p, q])[R.length]? = some p := by simp
theorem p2_b : (R ++ [p, q])[R.length + 1]? = some q := by
  rw [List.getElem?_append_right (by omega)]
  simp
theorem p2_sa : (R ++ [p, q]).set R.length p' = R ++ [p', q] := by
  rw [List.set_append_right _ _ (Nat.le_refl _), Nat.sub_self]
  rfl
theorem p2_sb : (R ++ [p, q]).set (R.length + 1) q' = R ++ [p, q'] := by
  rw [List.set_append_right _ _ (by omega), Nat.add_sub_cancel_left]
  rfl
end
theorem c_rules_in {W : World0} (T : Text W) : Cal W 6 "rules_in" 2 (fun ds R => ∃ (R0 : Rs) (x : D) (xs : List D) (rs : List Ru), ds = [x, .own R0.length] ∧ R = R0 ++ [.dic (.k [])] ∧ Seq R0 x xs ∧ RusIs xs rs ∧ RusOk rs)
    (fun ds R d R' => ∀ (R0 : Rs) (x : D) (xs : List D) (rs : List Ru), ds = [x, .own R0.length] → R = R0 ++ [.dic (.k [])] → Seq R0 x xs → RusIs xs rs → d = .tup [.lst (rs.map Ru.d), .non] ∧ ∃ kvs, Noted kvs ∧ R' = R0 ++ [.dic (.k kvs)]) ["thing", "known"] := by
  refine cal_t T.d_rules_in ⟨rfl, rfl, rfl, by decide +kernel, rfl, by decide +kernel, by decide +kernel⟩ rfl (fun _ _ _ _ _ _ us hl => match us, hl with | [_, _], _ => rfl) (N := ["thing", "known", "rules", "rule", "takes", "puts", "third"]) ?_
  rintro ds R hl ⟨R0, x, xs, rs, rfl, rfl, hx, hrs, hok, hz, ht⟩ hR hd f cd Ar outer s H E Fm
  obtain ⟨lv, hr, _⟩ := live_seq (hx.app (T := [.dic (.k [])]))
  walk_at "d"
  refine de_call (c_is_row T) Fm (by decide) (fun _ => rfl) ?_
  walk_at "d"
  refine ⟨rfl, ⟨x, rfl, lv, hr⟩, ?_⟩
  rintro d R2 ⟨rfl, rfl⟩
  walk_at "d"
  refine de_lstO ?_
  walk_at "d"
  refine ds_for Fm.toFam ?_
  refine di_seqS Fm.toFam (x := x) (ds := xs) ?_
  walk_at "d"
  have hlen := hrs.len
  refine ⟨rfl, by rw [List.append_assoc]; exact hx.app, ?_⟩
  have el : (R0 ++ [Res.dic (.k [])]).length = R0.length + 1 := by simp
  refine ⟨fun i ρ' R' => ∃ (kvs : List (Key × D)) (a b c d : Option D), R' = R0 ++ [.dic (.k kvs), .lst ((rs.take i).map Ru.d)] ∧ Noted kvs ∧ kvs.length ≤ tot (rs.take i) ∧ i ≤ rs.length ∧ ρ' = [some x, some (.own R0.length), some (.own (R0.length + 1)), a, b, c, d],
    ⟨[], none, none, none, none, by rw [List.append_assoc]; rfl, nofun, Nat.zero_le _, Nat.zero_le _, by rw [el]; rfl⟩, fun i ρ' R' ⟨kvs, a, b, c, d, e, _⟩ => by subst e; exact hx.app, ?_, ?_⟩
  · rintro i y ρ' R' hy ⟨kvs, a, b, c, d, rfl, hn, hk, hi, rfl⟩
    obtain ⟨r, h1, y1, y2, hy3, hy1, hy2⟩ := hrs.get hy
    have hro := hok r (List.mem_of_getElem? h1)
    have hil := (List.getElem?_eq_some_iff.mp h1).1
    obtain ⟨t1, t2⟩ := tot_take h1
    have hst := rus_take h1
    have lvy := (live3 (R := R0 ++ [.dic (.k kvs), .lst ((rs.take i).map Ru.d)]) hy3)
    repeat (first | walk_at "sx" | walk_at "x1")
    refine DW.dt (dw_or ?_)
    refine t_notRow (d := y) T.bl Fm.toFam (fun _ => rfl) (fun _ => rfl) (fun _ => rfl) T.bl.tuple T.bl.list (by decide +kernel) (by decide +kernel) ?_ ?_ lvy.1 (kit_row hy3).2 ?_
    · walk_at "d"
      exact ⟨rfl, rfl⟩
    · walk_at "d"
      exact ⟨rfl, rfl⟩
    walk_at "d"
    refine ⟨_, lvy.2.2, ?_⟩
    walk_at "d"
    refine ⟨0, 0, rfl, rfl, by decide, ?_⟩
    walk_at "d"
    refine dg_tup3 Fm.toFam hy3 rfl ?_
    walk_at "d"
    refine de_call (c_known T) Fm (by decide) (fun _ => rfl) ?_
    walk_at "d"
    unfold Ru.sz at t1 t2
    refine ⟨rfl, ⟨y1, r.ts, R0.length, kvs, rfl, hy1, hro.1, p2_a, hn, by omega⟩, ?_⟩
    rintro d1 R3 hB1
    obtain ⟨rfl, kvs1, rfl, hn1, hk1⟩ := hB1 y1 r.ts _ kvs rfl hy1 p2_a
    rw [p2_sa]
    walk_at "d"
    refine de_call (c_known T) Fm (by decide) (fun _ => rfl) ?_
    walk_at "d"
    refine ⟨rfl, ⟨y2, r.ps, R0.length, kvs1, rfl, hy2, hro.2.1, p2_a, hn1, by omega⟩, ?_⟩
    rintro d2 R3 hB2
    obtain ⟨rfl, kvs2, rfl, hn2, hk2⟩ := hB2 y2 r.ps _ kvs1 rfl hy2 p2_a
    rw [p2_sa]
    walk_at "d"
    refine ⟨_, _, rfl, p2_b, ?_⟩
    walk_at "d"
    refine ⟨_, p2_b, by rw [sizeLine_eq]; simp; omega, ?_⟩
    rw [p2_sb, show D.tup [D.lst (r.ts.map Ly.d), D.lst (r.ps.map Ly.d), r.mv] = r.d from rfl, hst]
    exact ⟨kvs2, _, _, _, _, rfl, hn2, by omega, hil, rfl⟩
  · rintro ρ' R' ⟨kvs, a, b, c, d, rfl, hn, hk, hi, rfl⟩
    rw [hlen, List.take_length]
    refine dss_one ?_
    refine ds_ret ?_
    refine de_tup ?_
    refine da_cons ?_
    refine DE.frz ?_
    walk_at "d"
    refine ⟨_, _, rfl, p2_b, ?_⟩
    rw [p2_sb]
    walk_at "d"
    refine .cut (R0 ++ [.dic (.k kvs)]) [.gone] (by rw [List.append_assoc]; rfl) (by simp) (fun r hr => ?_) ?_ fun R0' x' xs' rs' e1 e0 e2 e3 => ?_
    · rcases List.mem_append.mp hr with hr | hr
      · exact hR r (List.mem_append_left _ hr)
      · rw [List.mem_singleton.mp hr]
        exact noted_lt hn
    · refine lt_all fun d m => ?_
      simp only [List.mem_cons, List.not_mem_nil, or_false] at m
      rcases m with rfl | rfl
      · refine lt_all fun d m => ?_
        obtain ⟨r, hr, rfl⟩ := List.mem_map.mp m
        exact ok_lt 3 _ (Ru.okd (hok r hr))
      · rfl
    · have e4 : R0 = R0' := (List.append_inj' e0 rfl).1
      subst e4
      cases e1
      have := hx.uniq e2
      subst this
      rw [hrs.uniq e3]
      exact ⟨rfl, kvs, hn, rfl⟩
theorem kindS_inj {k m : Kd} (h : kindS k = kindS m) : k = m := by cases k <;> cases m <;> first | rfl | (exact absurd h (by decide +kernel))
theorem eqv_ly (l m : Ly) : PyData.eqv l.d.py m.d.py = decide (l = m) := by
  by_cases h : l = m
  · subst h
    rw [decide_eq_true rfl]
    exact SeqAt.eqv_refl_plain _ (D.ok_plain 1 l.d (tt_ok _ _ (ly_tt l))).1
  · rw [decide_eq_false h]
    cases l <;> cases m
    all_goals simp [Ly.d, Ly.k, Ly.w, D.py, D.pyAll, PyData.eqv, PyData.eqvAll]
    · intro e1 e2
      exact h (by rw [kindS_inj e1, e2])
    · intro e
      exact h (congrArg Ly.word (Int.ofNat_inj.mp e))
theorem eqv_lys : ∀ (ls ms : List Ly), PyData.eqvAll (D.pyAll (ls.map Ly.d)) (D.pyAll (ms.map Ly.d)) = decide (ls = ms)
  | [], [] => rfl
  | [], _ :: _ => rfl
  | _ :: _, [] => rfl
  | l :: ls, m :: ms => by
    rw [List.map_cons, List.map_cons, D.pyAll, D.pyAll, PyData.eqvAll, eqv_ly, eqv_lys ls ms]
    by_cases h1 : l = m <;> by_cases h2 : ls = ms <;> simp [h1, h2]
theorem eqv_lst (ls ms : List Ly) : PyData.eqv (D.lst (ls.map Ly.d)).py (D.lst (ms.map Ly.d)).py = decide (ls = ms) := by
  rw [← eqv_lys]
  rfl
theorem c_begins {W : World0} (T : Text W) : Cal W 1 "begins_with" 2 (fun ds R => ∃ ls ms : List Ly, ds = [.lst (ls.map Ly.d), .lst (ms.map Ly.d)] ∧ ls.length < 1000000 ∧ ms.length < 1000000)
    (fun ds R d R' => R' = R ∧ ∀ ls ms : List Ly, ds = [.lst (ls.map Ly.d), .lst (ms.map Ly.d)] → d = .bl (decide (ls.take ms.length = ms))) ["layers", "takes"] := by
  refine cal_t T.d_begins_with sc_begins rfl (fun _ _ _ _ _ _ us hl => match us, hl with | [_, _], _ => rfl) ?_
  rintro ds R hl ⟨ls, ms, rfl, hz1, hz2⟩ hR hd f cd Ar outer s H E Fm
  walk_at "d"
  refine ⟨_, .lst, ?_⟩
  walk_at "d"
  have key : DL.cutD (ls.map Ly.d) none (some ((ms.map Ly.d).length : Int)) = (ls.take ms.length).map Ly.d := by rw [cut_take, List.length_map, List.map_take]
  have o1 : ∀ ks : List Ly, D.ok 2 (.lst (ks.map Ly.d)) = true := fun ks => ttAll_ok 1 _ (lys_tt ks)
  rw [key]
  refine ⟨2, 2, by unfold okSee; rw [see_ok _ (o1 _)]; exact o1 _, by unfold okSee; rw [see_ok _ (o1 _)]; exact o1 _, by decide, ?_⟩
  rw [see_ok _ (o1 _), see_ok _ (o1 _), eqv_lst]
  refine .same rfl hR rfl ⟨rfl, fun ls' ms' e => ?_⟩
  simp only [List.cons.injEq, D.lst.injEq, and_true] at e
  rw [lys_inj e.1, lys_inj e.2]
theorem c_checked_layers {W : World0} (T : Text W) : Cal W 6 "checked_layers" 1 (fun ds R => ∃ (x : D) (ls : List Ly), ds = [x] ∧ x.norm = .tup (ls.map Ly.d) ∧ LysOk ls)
    (fun ds R d R' => R' = R ∧ ∀ (x : D) (ls : List Ly), ds = [x] → x.norm = .tup (ls.map Ly.d) → d = .lst (ls.map Ly.d)) ["layers"] := by
  refine cal_t T.d_checked_layers ⟨rfl, rfl, rfl, by decide +kernel, rfl, by decide +kernel, by decide +kernel⟩ rfl (fun _ _ _ _ _ _ us hl => match us, hl with | [_], _ => rfl) (N := ["layers", "plain"]) ?_
  rintro ds R hl ⟨x, ls, rfl, hx, hok⟩ hR hd f cd Ar outer s H E Fm
  walk_at "d"
  refine de_call (c_as_layers T) Fm (by decide) (fun _ => rfl) ?_
  walk_at "d"
  refine ⟨rfl, ⟨x, ls, rfl, hx, hok⟩, ?_⟩
  rintro d R2 ⟨rfl, hB⟩
  cases hB x ls rfl hx
  walk_at "d"
  refine .same rfl hR (lys_lt _ ls) ⟨rfl, fun x' ls' e1 e2 => ?_⟩
  cases e1
  rw [hx] at e2
  injection e2 with e2
  rw [e2]
theorem c_known_rules {W : World0} (T : Text W) : Cal W 7 "known_rules" 2 (fun ds R => ∃ (R0 : Rs) (x : D) (xs : List D) (rs : List Ru), ds = [x, .own R0.length] ∧ R = R0 ++ [.dic (.k [])] ∧ Seq R0 x xs ∧ RusIs xs rs ∧ RusOk rs)
    (fun ds R d R' => ∀ (R0 : Rs) (x : D) (xs : List D) (rs : List Ru), ds = [x, .own R0.length] → R = R0 ++ [.dic (.k [])] → Seq R0 x xs → RusIs xs rs → d = .lst (rs.map Ru.d) ∧ ∃ kvs, Noted kvs ∧ R' = R0 ++ [.dic (.k kvs)]) ["rules", "known"] := by
  refine cal_t T.d_known_rules ⟨rfl, rfl, rfl, by decide +kernel, rfl, by decide +kernel, by decide +kernel⟩ rfl (fun _ _ _ _ _ _ us hl => match us, hl with | [_, _], _ => rfl) (N := ["rules", "known", "plain", "wrong"]) ?_
  rintro ds R hl ⟨R0, x, xs, rs, rfl, rfl, hx, hrs, hok⟩ hR hd f cd Ar outer s H E Fm
  walk_at "d"
  refine de_call (c_rules_in T) Fm (by decide) (fun _ => rfl) ?_
  walk_at "d"
  refine ⟨rfl, ⟨R0, x, xs, rs, rfl, rfl, hx, hrs, hok⟩, ?_⟩
  rintro d R2 hB
  obtain ⟨rfl, kvs, hn, rfl⟩ := hB R0 x xs rs rfl rfl hx hrs
  refine dg_tup Fm.toFam (.inl rfl) rfl ?_
  walk_at "d"
  refine .cut (R0 ++ [.dic (.k kvs)]) [] (by simp) (by simp) (fun r hr => ?_) (lt_all fun d m => ?_) fun R0' x' xs' rs' e1 e0 e2 e3 => ?_
  · rcases List.mem_append.mp hr with hr | hr
    · exact hR r (List.mem_append_left _ hr)
    · rw [List.mem_singleton.mp hr]
      exact noted_lt hn
  · obtain ⟨r, hr, rfl⟩ := List.mem_map.mp m
    exact ok_lt 3 _ (Ru.okd (hok.1 r hr))
  · have e4 : R0 = R0' := (List.append_inj' e0 rfl).1
    subst e4
    cases e1
    have := hx.uniq e2
    subst this
    rw [hrs.uniq e3]
    exact ⟨rfl, kvs, hn, rfl⟩
theorem c_checked_rules {W : World0} (T : Text W) : Cal W 8 "checked_rules" 1 (fun ds R => ∃ (x : D) (xs : List D) (rs : List Ru), ds = [x] ∧ Seq R x xs ∧ RusIs xs rs ∧ RusOk rs)
    (fun ds R d R' => R' = R ∧ ∀ (x : D) (xs : List D) (rs : List Ru), ds = [x] → Seq R x xs → RusIs xs rs → d = .lst (rs.map Ru.d)) ["rules"] := by
  refine cal_t T.d_checked_rules ⟨rfl, rfl, rfl, by decide +kernel, rfl, by decide +kernel, by decide +kernel⟩ rfl (fun _ _ _ _ _ _ us hl => match us, hl with | [_], _ => rfl) (N := ["rules"]) ?_
  rintro ds R hl ⟨x, xs, rs, rfl, hx, hrs, hok⟩ hR hd f cd Ar outer s H E Fm
  walk_at "d"
  refine de_call (c_known_rules T) Fm (by decide) (fun _ => rfl) ?_
  walk_at "d"
  refine de_dict0 ?_
  walk_at "d"
  refine ⟨rfl, ⟨R, x, xs, rs, rfl, rfl, hx, hrs, hok⟩, ?_⟩
  rintro d R2 hB
  obtain ⟨rfl, kvs, hn, rfl⟩ := hB R x xs rs rfl rfl hx hrs
  refine .cut R _ rfl rfl hR (lt_all fun d m => ?_) ⟨rfl, fun x' xs' rs' e1 e2 e3 => ?_⟩
  · obtain ⟨r, hr, rfl⟩ := List.mem_map.mp m
    exact ok_lt 3 _ (Ru.okd (hok.1 r hr))
  · cases e1
    have := hx.uniq e2
    subst this
    rw [hrs.uniq e3]
theorem cut_drop (ds : List D) (n : Nat) : DL.cutD ds (some (n : Int)) none = ds.drop n := by
  unfold DL.cutD
  have h1 : HT.sIx ds.length ds.length none = ds.length := rfl
  rw [h1, HT.sIx_nat]
  by_cases h : n ≤ ds.length
  · rw [Nat.min_eq_left h, List.take_of_length_le (by simp)]
  · rw [Nat.min_eq_right (by omega), List.drop_eq_nil_of_le (Nat.le_refl _), List.drop_eq_nil_of_le (by omega), List.take_nil]
def AfterA : PreD := fun ds R => ∃ (x y : D) (k : Nat) (xs : List D) (rs : List Ru) (ls : List Ly) (r : Ru), ds = [x, y, .int k] ∧ Seq R x xs ∧ RusIs xs rs ∧ RusOk rs ∧ y.norm = .tup (ls.map Ly.d) ∧ LysOk ls ∧ rs[k]? = some r
def AfterB : PostD := fun ds R d R' => ∀ (x y : D) (k : Nat) (xs : List D) (rs : List Ru) (ls : List Ly) (r : Ru), ds = [x, y, .int k] → Seq R x xs → RusIs xs rs → y.norm = .tup (ls.map Ly.d) → rs[k]? = some r →
  if ls.take r.ts.length = r.ts then d = .own R.length ∧ R' = R ++ [.lst ((r.ps ++ ls.drop r.ts.length).map Ly.d)] else d = .non ∧ R' = R
theorem c_after {W : World0} (T : Text W) : Cal W 9 "after" 3 AfterA AfterB ["rules", "layers", "rule"] := by
  refine cal_t T.d_after ⟨rfl, rfl, rfl, by decide +kernel, rfl, by decide +kernel, by decide +kernel⟩ rfl (fun _ _ _ _ _ _ us hl => match us, hl with | [_, _, _], _ => rfl) (N := ["rules", "layers", "rule", "plain", "row", "takes", "puts", "_"]) ?_
  rintro ds R hl ⟨x, y, k, xs, rs, ls, r, rfl, hx, hrs, hok, hy, hls, hr⟩ hR hd f cd Ar outer s H E Fm
  walk_at "d"
  refine de_call (c_checked_rules T) Fm (by decide) (fun _ => rfl) ?_
  walk_at "d"
  refine ⟨rfl, ⟨x, xs, rs, rfl, hx, hrs, hok⟩, ?_⟩
  rintro d R2 ⟨rfl, hB⟩
  cases hB x xs rs rfl hx hrs
  walk_at "d"
  refine de_call (c_checked_layers T) Fm (by decide) (fun _ => rfl) ?_
  walk_at "d"
  refine ⟨rfl, ⟨y, ls, rfl, hy, hls⟩, ?_⟩
  rintro d R3 ⟨rfl, hB2⟩
  cases hB2 y ls rfl hy
  walk_at "d"
  refine de_call (c_is_below T) Fm (by decide) (fun _ => rfl) ?_
  walk_at "d"
  have hk : k < rs.length := (List.getElem?_eq_some_iff.mp hr).1
  refine ⟨rfl, ⟨k, rs.length, by simp, by omega, by omega⟩, ?_⟩
  rintro d R4 ⟨rfl, rfl⟩
  walk_at "d"
  refine ⟨_, k, r.d, .lst, rfl, atI_nat (by rw [List.getElem?_map, hr]; rfl), ?_⟩
  walk_at "d"
  refine dg_tup Fm.toFam (.inl rfl) rfl ?_
  walk_at "d"
  refine de_call (c_begins T) Fm (by decide) (fun _ => rfl) ?_
  walk_at "d"
  have hrk := hok.1 r (List.mem_of_getElem? hr)
  refine ⟨rfl, ⟨ls, r.ts, rfl, hls.2, hrk.1.2⟩, ?_⟩
  rintro d R5 ⟨rfl, hB3⟩
  cases hB3 ls r.ts rfl
  walk_at "d"
  refine ⟨fun hb => ?_, fun hb => ?_⟩
  · have hb := of_decide_eq_true hb
    refine e_addLO ?_
    walk_at "d"
    refine ⟨_, .lst, ?_⟩
    rw [List.length_map, cut_drop, ← List.map_drop]
    refine ⟨_, _, rfl, rfl, ?_, ?_⟩
    · have := sizeLine_eq
      have h1 := hrk.2.1.2
      have h2 := hls.2
      simp
      omega
    · refine .one R5 [.lst ((r.ps ++ ls.drop r.ts.length).map Ly.d)] 0 _ (by rw [List.map_append]) rfl hR rfl (lys_lt _ _) rfl ?_
      intro x' y' k' xs' rs' ls' r' e1 e2 e3 e4 e5
      simp only [List.cons.injEq, D.int.injEq, and_true] at e1
      obtain ⟨rfl, rfl, ek⟩ := e1
      have ek := Int.ofNat_inj.mp ek
      subst ek
      have := hx.uniq e2
      subst this
      have := hrs.uniq e3
      subst this
      rw [hy] at e4
      injection e4 with e4
      have e4 := lys_inj e4
      subst e4
      rw [hr] at e5
      cases e5
      rw [if_pos hb]
      exact ⟨rfl, rfl⟩
  · have hb := of_decide_eq_false hb
    walk_at "d"
    refine .same rfl hR rfl ?_
    intro x' y' k' xs' rs' ls' r' e1 e2 e3 e4 e5
    simp only [List.cons.injEq, D.int.injEq, and_true] at e1
    obtain ⟨rfl, rfl, ek⟩ := e1
    have ek := Int.ofNat_inj.mp ek
    subst ek
    have := hx.uniq e2
    subst this
    have := hrs.uniq e3
    subst this
    rw [hy] at e4
    injection e4 with e4
    have e4 := lys_inj e4
    subst e4
    rw [hr] at e5
    cases e5
    rw [if_neg hb]
    exact ⟨rfl, rfl⟩
theorem Ru.is (r : Ru) : RuIs r.d r := ⟨_, _, .inl rfl, by rw [D.norm, normAll_map, lys_norm], by rw [D.norm, normAll_map, lys_norm]⟩
theorem rus_is : ∀ rs : List Ru, RusIs (rs.map Ru.d) rs
  | [] => trivial
  | r :: rs => ⟨r.is, rus_is rs⟩
theorem Ru.d_inj {r r' : Ru} (h : r.d = r'.d) : r = r' := r.is.uniq (h ▸ r'.is)
def afterD (r : Ru) (ls : List Ly) : D := if ls.take r.ts.length = r.ts then .lst ((r.ps ++ ls.drop r.ts.length).map Ly.d) else .non
theorem c_law_after {W : World0} (T : Text W) : Cal W 1 "_law_after" 2 (fun ds R => ∃ (r : Ru) (ls : List Ly), ds = [r.d, .lst (ls.map Ly.d)] ∧ r.ok ∧ LysOk ls)
    (fun ds R d R' => R' = R ∧ ∀ (r : Ru) (ls : List Ly), ds = [r.d, .lst (ls.map Ly.d)] → d = afterD r ls) ["rule", "layers"] := by
  refine cal_t T.d_law_after ⟨rfl, rfl, rfl, by decide +kernel, rfl, by decide +kernel, by decide +kernel⟩ rfl (fun _ _ _ _ _ _ us hl => match us, hl with | [_, _], _ => rfl) (N := ["rule", "layers", "takes", "puts"]) ?_
  rintro ds R hl ⟨r, ls, rfl, hr, hls⟩ hR hd f cd Ar outer s H E Fm
  have uniq : ∀ (r' : Ru) (ls' : List Ly), [r.d, D.lst (ls.map Ly.d)] = [r'.d, .lst (ls'.map Ly.d)] → r' = r ∧ ls' = ls := fun r' ls' e => by
    simp only [List.cons.injEq, D.lst.injEq, and_true] at e
    exact ⟨(Ru.d_inj e.1).symm, (lys_inj e.2).symm⟩
  walk_at "d"
  refine ds_par 2 3 Fm.toFam rfl rfl (by decide) (fun _ => rfl) (fun _ => rfl) (fun _ => rfl) ?_
  refine da_cons ?_
  refine e_list T.bl Fm.toFam (fun _ => rfl) ?_
  walk_at "d"
  refine ⟨_, 0, _, (Seq.tup : Seq R r.d _), rfl, rfl, ?_⟩
  refine ⟨_, .lst, ?_⟩
  refine da_cons ?_
  refine e_list T.bl Fm.toFam (fun _ => rfl) ?_
  walk_at "d"
  refine ⟨_, 1, _, (Seq.tup : Seq R r.d _), rfl, rfl, ?_⟩
  refine ⟨_, .lst, ?_⟩
  walk_at "d"
  refine ⟨_, _, rfl, ?_⟩
  walk_at "d"
  refine e_list T.bl Fm.toFam (fun _ => rfl) ?_
  walk_at "d"
  refine ⟨_, .lst, ?_⟩
  rw [List.length_map, cut_take, ← List.map_take]
  refine ⟨_, .lst, ?_⟩
  walk_at "d"
  have o1 : ∀ ks : List Ly, D.ok 2 (.lst (ks.map Ly.d)) = true := fun ks => ttAll_ok 1 _ (lys_tt ks)
  refine ⟨2, 2, by unfold okSee; rw [see_ok _ (o1 _)]; exact o1 _, by unfold okSee; rw [see_ok _ (o1 _)]; exact o1 _, by decide, ?_⟩
  rw [see_ok _ (o1 _), see_ok _ (o1 _), eqv_lst]
  refine ⟨fun hb => ?_, fun hb => ?_⟩
  · have hb := of_decide_eq_true hb
    refine e_addL ?_
    walk_at "d"
    refine e_list T.bl Fm.toFam (fun _ => rfl) ?_
    walk_at "d"
    refine ⟨_, .lst, ?_⟩
    rw [List.length_map, cut_drop, ← List.map_drop]
    refine ⟨_, .lst, ?_⟩
    refine ⟨_, _, rfl, rfl, ?_, ?_⟩
    · have := sizeLine_eq
      have h1 := hr.2.1.2
      have h2 := hls.2
      simp
      omega
    · rw [← List.map_append]
      refine .same rfl hR (lys_lt _ _) ⟨rfl, fun r' ls' e => ?_⟩
      obtain ⟨rfl, rfl⟩ := uniq r' ls' e
      unfold afterD
      rw [if_pos hb]
  · have hb := of_decide_eq_false hb
    walk_at "d"
    refine .same rfl hR rfl ⟨rfl, fun r' ls' e => ?_⟩
    obtain ⟨rfl, rfl⟩ := uniq r' ls' e
    unfold afterD
    rw [if_neg hb]
structure Small (d : D) : Prop where
  leaf : d.py.leavesShort 16 = true
  bulk : d.py.bulk ≤ 100
  show_ : d.py.showable = true
  dict : d.py.hasDict = false
theorem small_int : ∀ n : Nat, n < 10 → Small (.int (n : Int)) := fun n hn =>
  ⟨(by decide +kernel : ∀ n : Nat, n < 10 → (D.int (n : Int)).py.leavesShort 16 = true) n hn, Nat.zero_le _, (by decide +kernel : ∀ n : Nat, n < 10 → (D.int (n : Int)).py.showable = true) n hn, rfl⟩
theorem small_ly (l : Ly) (h : l.ok = true) : l.d.py.leavesShort 16 = true ∧ l.d.py.bulk ≤ 30 ∧ l.d.py.showable = true ∧ l.d.py.hasDict = false := by
  cases l with
  | word n =>
    have hn : n < 10 := of_decide_eq_true h
    have q := small_int n hn
    refine ⟨?_, by simp [Ly.d, Ly.k, Ly.w, D.py, D.pyAll, PyData.bulk, PyData.bulkAll]; decide +kernel, ?_, rfl⟩
    · simp only [Ly.d, Ly.k, Ly.w, D.py, D.pyAll, PyData.leavesShort, PyData.leavesShortAll, Bool.and_true, Bool.and_eq_true]
      exact ⟨by decide +kernel, q.leaf⟩
    · simp only [Ly.d, Ly.k, Ly.w, D.py, D.pyAll, PyData.showable, PyData.showableAll, Bool.and_true, Bool.true_and]
      exact q.show_
  | own k z =>
    have hz : agentB z = true := h
    unfold agentB at hz
    simp only [Bool.and_eq_true, decide_eq_true_eq, List.all_eq_true] at hz
    obtain ⟨⟨⟨⟨_, h8⟩, hs⟩, _⟩, _⟩ := hz
    have hk : (PyData.str (kindS k)).bulk ≤ 6 ∧ (PyData.str (kindS k)).leavesShort 16 = true := by cases k <;> decide +kernel
    refine ⟨?_, ?_, rfl, rfl⟩
    · simp only [Ly.d, Ly.k, Ly.w, D.py, D.pyAll, PyData.leavesShortAll, Bool.and_true, Bool.and_eq_true]
      rw [PyData.leavesShort]
      simp only [PyData.leavesShortAll, Bool.and_true, Bool.and_eq_true]
      refine ⟨hk.2, ?_⟩
      rw [PyData.leavesShort, List.all_eq_true]
      intro c hc
      have := hs c hc
      unfold signB at this
      simp only [Bool.and_eq_true, decide_eq_true_eq] at this
      exact decide_eq_true (by omega)
    · have h2 : (PyData.str z).bulk ≤ 8 := h8
      show (PyData.str (kindS k)).bulk + 1 + ((PyData.str z).bulk + 1 + 0) ≤ 30
      omega
structure Fine (r : Ru) : Prop where
  ts : ∀ l ∈ r.ts, l.ok = true
  tl : r.ts.length ≤ 6
  ps : ∀ l ∈ r.ps, l.ok = true
  pl : r.ps.length ≤ 6
  mv : D.tt 2 r.mv = true
  sm : Small r.mv
theorem Fine.ok {r : Ru} (h : Fine r) : r.ok := ⟨⟨h.ts, by have := h.tl; omega⟩, ⟨h.ps, by have := h.pl; omega⟩, tt_ok 2 _ h.mv⟩
theorem Fine.lt {r : Ru} (n : Nat) (h : Fine r) : D.lt n r.d = true := ok_lt 3 _ (Ru.okd h.ok)
theorem of_map {P : Ru → Prop} : ∀ {ys : List D}, (∀ y ∈ ys, ∃ r, P r ∧ y = r.d) → ∃ rs : List Ru, ys = rs.map Ru.d ∧ ∀ r ∈ rs, P r
  | [], _ => ⟨[], rfl, nofun⟩
  | y :: ys, h => by
    obtain ⟨r, h1, rfl⟩ := h y (by simp)
    obtain ⟨rs, rfl, h2⟩ := of_map (ys := ys) fun y m => h y (List.mem_cons_of_mem _ m)
    exact ⟨r :: rs, rfl, fun q m => (List.mem_cons.mp m).elim (fun e => e ▸ h1) (h2 q)⟩
theorem of_perm {P : Ru → Prop} {ys : List D} {rs : List Ru} (h : ys.Perm (rs.map Ru.d)) (hr : ∀ r ∈ rs, P r) : ∃ qs : List Ru, ys = qs.map Ru.d ∧ (∀ r ∈ qs, P r) ∧ qs.length = rs.length := by
  obtain ⟨qs, rfl, h2⟩ := of_map (P := P) (ys := ys) fun y m => by
    obtain ⟨r, h1, rfl⟩ := List.mem_map.mp (h.mem_iff.mp m)
    exact ⟨r, hr r h1, rfl⟩
  exact ⟨qs, rfl, h2, by simpa using h.length_eq⟩
def ClimbB : PostD := fun ds R d R' => ∀ (c m : Nat) (S : Rs), ds = [.own 1, .int m] → St R c S → ∃ (c' : Nat) (rs : List Ru), St R' c' S ∧ c ≤ c' ∧ c' ≤ c + 64 ∧ d = .lst (rs.map Ru.d) ∧ (∀ r ∈ rs, Fine r) ∧ 0 < rs.length ∧ rs.length ≤ 12
theorem c_climbing {W : World0} (T : Text W) : Cal W 3 "_law_climbing" 2 (fun ds R => ∃ (c m : Nat) (S : Rs), ds = [.own 1, .int m] ∧ St R c S ∧ c + 64 < 2 ^ 40 ∧ 2 ≤ m ∧ m ≤ 6) ClimbB ["stream", "many"] := by
  refine cal_t T.d_law_climbing ⟨rfl, rfl, rfl, by decide +kernel, rfl, by decide +kernel, by decide +kernel⟩ rfl (fun _ _ _ _ _ _ us hl => match us, hl with | [_, _], _ => rfl) (N := ["stream", "many", "found", "k", "puts", "one"]) ?_
  rintro ds R hl ⟨c, m, S, rfl, hS, hc, hm2, hm6⟩ hR hd f cd Ar outer s H E Fm
  have hRl := hS.len
  have ele : R.length = S.length + 2 + 0 := by omega
  walk_at "d"
  refine de_lstO ?_
  walk_at "d"
  have hS1 : St (R ++ [.lst []]) c (S ++ [.lst []]) := hS.more _
  rw [show D.own R.length = D.own (S.length + 2 + 0) from by rw [ele]]
  refine ds_for Fm.toFam ?_
  refine di_range1 Fm.toFam (fun _ => rfl) T.bl.range ?_
  walk_at "d"
  refine ⟨by omega, ?_⟩
  refine ⟨fun i ρ' R' => ∃ (c' : Nat) (rs : List Ru) (z1 z2 : Option D), St R' c' (S ++ [.lst (rs.map Ru.d)]) ∧ c ≤ c' ∧ c' ≤ c + i ∧ (∀ r ∈ rs, Fine r) ∧ rs.length = i ∧ i ≤ m ∧ ρ' = [some (.own 1), some (.int m), some (.own (S.length + 2 + 0)), z1, z2, none],
    ⟨c, [], none, none, hS1, Nat.le_refl _, Nat.le_refl _, nofun, rfl, by omega, rfl⟩, fun _ _ _ _ => trivial, ?_, ?_⟩
  · rintro i y ρ' R' hy ⟨c', rs, z1, z2, hS2, hc1, hc2, hf, hlen, him, rfl⟩
    obtain ⟨hi, rfl⟩ := upTo_at hy
    have hi6 : (i : Int) < m := by omega
    rw [Int.zero_add]
    refine dg_name 3 Fm.toFam (by decide +kernel) (by walk_at "sc") ?_
    refine dss_cons ?_
    refine ds_set 4 Fm.toFam (by decide +kernel) (by walk_at "sc") ?_
    refine DE.imp (Φ := fun d R2 => ∃ (c2 : Nat) (ls : List Ly), d = .lst (ls.map Ly.d) ∧ St R2 c2 (S ++ [.lst (rs.map Ru.d)]) ∧ c' ≤ c2 ∧ c2 ≤ c' + 1 ∧ (∀ l ∈ ls, l.ok = true) ∧ ls.length ≤ 6) ?_ fun d R2 ⟨c2, ls, hd2, hS3, hd3, hd4, hd5, hd6⟩ => ?_
    · walk_at "di"
      refine ⟨fun hk => ?_, fun hk => ?_⟩
      · refine de_lc (own := [("one", 5)]) Fm (fun _ => blk_by (by kernel_rfl)) ?_
        refine di_range1 Fm.toFam (fun _ => rfl) T.bl.range ?_
        walk_at "di"
        refine de_call (c_draw T) Fm (by decide) (fun _ => rfl) ?_
        walk_at "d"
        refine ⟨rfl, ⟨c', _, 3, rfl, hS2, by omega, by omega, by omega⟩, ?_⟩
        rintro d R3 hB
        obtain ⟨hS3, r, rfl, hr0, hr1⟩ := hB _ _ _ rfl hS2
        refine ⟨1, r, rfl, rfl, ?_⟩
        refine ⟨_, rfl, by omega, ?_⟩
        have hk := of_decide_eq_true hk
        have hkm : i + 1 < m := by omega
        refine ⟨fun j ys R' => j ≤ 3 ∧ R' = R3 ∧ ys = (List.replicate j (Ly.word (i + 1))).map Ly.d, ⟨by omega, rfl, rfl⟩, ?_, ?_, ?_⟩
        · rintro j ys R' ⟨hj3, rfl, rfl⟩
          have := sizeLine_eq
          exact ⟨trivial, by simp; omega⟩
        · rintro j y ys R' hy ⟨hj3, rfl, rfl⟩
          obtain ⟨hj, rfl⟩ := upTo_at hy
          walk_at "di"
          refine ⟨by omega, rfl, ?_⟩
          rw [List.replicate_succ', List.map_append]
          rfl
        · rintro ys R' ⟨hj3, rfl, rfl⟩
          rw [upTo_len]
          refine ⟨c' + 1, _, rfl, hS3, by omega, by omega, fun l m => ?_, ?_⟩
          · rw [List.eq_of_mem_replicate m]
            exact decide_eq_true (by omega)
          · rw [List.length_replicate]
            omega
      · refine de_lst ?_
        walk_at "d"
        exact ⟨c', [], rfl, hS2, Nat.le_refl _, by omega, nofun, by simp⟩
    · subst hd2
      walk_at "d"
      refine ⟨_, rs.map Ru.d, rfl, hS3.at 0, ?_⟩
      walk_at "d"
      refine de_lst ?_
      walk_at "d"
      refine ⟨rs.map Ru.d, hS3.at 0, by rw [sizeLine_eq]; simp; omega, ?_⟩
      have hS4 := hS3.put 0 (.lst (rs.map Ru.d ++ [(⟨[.word i], ls, .int (i : Int)⟩ : Ru).d]))
      refine ⟨c2, rs ++ [⟨[.word i], ls, .int (i : Int)⟩], _, _, ?_, by omega, by omega, ?_, by simp [hlen], by omega, rfl⟩
      · rw [List.map_append]
        exact hS4
      · intro q hq
        rcases List.mem_append.mp hq with hq | hq
        · exact hf q hq
        · rw [List.mem_singleton.mp hq]
          refine ⟨fun l hl => ?_, by simp, hd5, hd6, rfl, small_int i (by omega)⟩
          rw [List.mem_singleton.mp hl]
          exact decide_eq_true (by omega)
  · rintro ρ' R' ⟨c', rs, z1, z2, hS2, hc1, hc2, hf, hlen, him, rfl⟩
    rw [upTo_len] at hlen him hc2
    refine dss_cons ?_
    walk_at "d"
    refine de_call (c_draw T) Fm (by decide) (fun _ => rfl) ?_
    walk_at "d"
    have hm : (m : Int).toNat = m := by omega
    rw [hm] at hlen him hc2
    refine ⟨rfl, ⟨c', _, 3, rfl, hS2, by omega, by omega, by omega⟩, ?_⟩
    rintro d R3 hB
    obtain ⟨hS3, r, rfl, hr0, hr1⟩ := hB _ _ _ rfl hS2
    walk_at "d"
    refine ⟨0, 0, rfl, rfl, by decide, ?_⟩
    refine ⟨fun hk => ?_, fun hk => ?_⟩
    · walk_at "d"
      refine ⟨_, rs.map Ru.d, rfl, hS3.at 0, ?_⟩
      walk_at "d"
      refine de_lst ?_
      walk_at "d"
      refine de_lst ?_
      walk_at "d"
      refine ⟨rs.map Ru.d, hS3.at 0, by rw [sizeLine_eq]; simp; omega, ?_⟩
      have hS4 := hS3.put 0 (.lst (rs.map Ru.d ++ [(⟨[], [.own .la "a"], .non⟩ : Ru).d]))
      have hF1 : Fine ⟨[], [.own .la "a"], .non⟩ := ⟨nofun, by simp, fun l hl => by rw [List.mem_singleton.mp hl]; decide +kernel, by simp, rfl, ⟨rfl, by decide, rfl, rfl⟩⟩
      walk_at "d"
      refine ⟨_, rs.map Ru.d ++ [(⟨[], [.own .la "a"], .non⟩ : Ru).d], rfl, hS4.at 0, ?_⟩
      walk_at "d"
      refine de_lst ?_
      walk_at "d"
      refine de_call (c_draw T) Fm (by decide) (fun _ => rfl) ?_
      walk_at "d"
      refine ⟨rfl, ⟨c' + 1, _, m, rfl, hS4, by omega, by omega, by omega⟩, ?_⟩
      rintro d R4 hB2
      obtain ⟨hS5, q, rfl, hq0, hq1⟩ := hB2 _ _ _ rfl hS4
      obtain ⟨qn, rfl⟩ := Int.eq_ofNat_of_zero_le hq0
      walk_at "d"
      refine de_lst ?_
      walk_at "d"
      refine ⟨rs.map Ru.d ++ [(⟨[], [.own .la "a"], .non⟩ : Ru).d], hS5.at 0, by rw [sizeLine_eq]; simp; omega, ?_⟩
      have hS6 := hS5.put 0 (.lst (rs.map Ru.d ++ [(⟨[], [.own .la "a"], .non⟩ : Ru).d] ++ [(⟨[.own .la "a", .word qn], [], .non⟩ : Ru).d]))
      have hF2 : Fine ⟨[.own .la "a", .word qn], [], .non⟩ := by
        refine ⟨fun l hl => ?_, by simp, nofun, by simp, rfl, ⟨rfl, Nat.zero_le _, rfl, rfl⟩⟩
        simp only [List.mem_cons, List.not_mem_nil, or_false] at hl
        rcases hl with rfl | rfl
        · decide +kernel
        · exact decide_eq_true (by omega)
      obtain ⟨rs3, e3⟩ : ∃ rs3, rs3 = rs ++ [⟨[], [.own .la "a"], .non⟩, ⟨[.own .la "a", .word qn], [], .non⟩] := ⟨_, rfl⟩
      obtain ⟨c3, f3⟩ : ∃ c3, c3 = c' + 1 + 1 := ⟨_, rfl⟩
      have hlen : rs3.length = m + 2 := by rw [e3]; simp [hlen]
      have hf3 : ∀ r ∈ rs3, Fine r := by
        rw [e3]
        intro r hr
        rcases List.mem_append.mp hr with hr | hr
        · exact hf r hr
        · simp only [List.mem_cons, List.not_mem_nil, or_false] at hr
          rcases hr with rfl | rfl
          · exact hF1
          · exact hF2
      have hS3 : St (R4.set (S.length + 2 + 0) (.lst (rs.map Ru.d ++ [(⟨[], [.own .la "a"], .non⟩ : Ru).d] ++ [(⟨[.own .la "a", .word qn], [], .non⟩ : Ru).d]))) c3 (S ++ [.lst (rs3.map Ru.d)]) := by
        rw [f3, e3, List.map_append]
        have e4 : rs.map Ru.d ++ [(⟨[], [.own .la "a"], .non⟩ : Ru).d] ++ [(⟨[.own .la "a", .word qn], [], .non⟩ : Ru).d] = rs.map Ru.d ++ ([⟨[], [.own .la "a"], .non⟩, ⟨[.own .la "a", .word qn], [], .non⟩] : List Ru).map Ru.d := by simp
        rw [← e4]
        exact hS6
      walk_at "d"
      refine de_call (c_mixed T) Fm (by decide) (fun _ => rfl) ?_
      walk_at "d"
      refine ⟨rfl, ⟨c3, _, _, rs3.map Ru.d, rfl, hS3, by simp; omega, .own (hS3.at 0), fun k e => by cases e; omega, ?_, by simp; omega⟩, ?_⟩
      · exact lt_all fun d hd => by
          obtain ⟨q, hq, rfl⟩ := List.mem_map.mp hd
          exact Fine.lt _ (hf3 q hq)
      · rintro d R5 hB
        obtain ⟨hS5, ys, rfl, hp⟩ := hB _ _ _ _ rfl hS3 (.own (hS3.at 0))
        obtain ⟨qs, rfl, hq1, hq2⟩ := of_perm hp hf3
        refine hS.ret hR hS5 (lt_all fun d hd => ?_) ?_
        · obtain ⟨q, hq, rfl⟩ := List.mem_map.mp hd
          exact Fine.lt _ (hq1 q hq)
        · intro R6 hS6 c' m' S' e1 e2
          obtain ⟨rfl, rfl⟩ := hS.uniq e2
          refine ⟨_, qs, hS6, by omega, by simp; omega, rfl, hq1, by omega, by omega⟩
    · have hf3 := hf
      obtain ⟨rs3, e3⟩ : ∃ rs3, rs3 = rs := ⟨_, rfl⟩
      obtain ⟨c3, f3⟩ : ∃ c3, c3 = c' + 1 := ⟨_, rfl⟩
      rw [← e3] at hS3 hf3 hlen
      rw [← f3] at hS3
      walk_at "d"
      refine de_call (c_mixed T) Fm (by decide) (fun _ => rfl) ?_
      walk_at "d"
      refine ⟨rfl, ⟨c3, _, _, rs3.map Ru.d, rfl, hS3, by simp; omega, .own (hS3.at 0), fun k e => by cases e; omega, ?_, by simp; omega⟩, ?_⟩
      · exact lt_all fun d hd => by
          obtain ⟨q, hq, rfl⟩ := List.mem_map.mp hd
          exact Fine.lt _ (hf3 q hq)
      · rintro d R5 hB
        obtain ⟨hS5, ys, rfl, hp⟩ := hB _ _ _ _ rfl hS3 (.own (hS3.at 0))
        obtain ⟨qs, rfl, hq1, hq2⟩ := of_perm hp hf3
        refine hS.ret hR hS5 (lt_all fun d hd => ?_) ?_
        · obtain ⟨q, hq, rfl⟩ := List.mem_map.mp hd
          exact Fine.lt _ (hq1 q hq)
        · intro R6 hS6 c' m' S' e1 e2
          obtain ⟨rfl, rfl⟩ := hS.uniq e2
          refine ⟨_, qs, hS6, by omega, by simp; omega, rfl, hq1, by omega, by omega⟩
theorem lys_of : ∀ {ys : List D} {bs : List Ly}, ys.Perm (bs.map Ly.d) → ∃ ls : List Ly, ys = ls.map Ly.d ∧ (∀ l ∈ ls, l ∈ bs) ∧ ls.length = bs.length := fun {ys bs} h => by
  have : ∀ (zs : List D), (∀ z ∈ zs, ∃ l ∈ bs, z = l.d) → ∃ ls : List Ly, zs = ls.map Ly.d ∧ ∀ l ∈ ls, l ∈ bs := by
    intro zs
    induction zs with
    | nil => exact fun _ => ⟨[], rfl, nofun⟩
    | cons z zs ih =>
      intro q
      obtain ⟨l, hl, rfl⟩ := q z (by simp)
      obtain ⟨ls, rfl, h2⟩ := ih fun z m => q z (List.mem_cons_of_mem _ m)
      exact ⟨l :: ls, rfl, fun k m => (List.mem_cons.mp m).elim (fun e => e ▸ hl) (h2 k)⟩
  obtain ⟨ls, rfl, h2⟩ := this ys fun z m => by
    obtain ⟨l, h1, h2⟩ := List.mem_map.mp (h.mem_iff.mp m)
    exact ⟨l, h1, h2.symm⟩
  exact ⟨ls, rfl, h2, by simpa using h.length_eq⟩
def five : List Ly := [.own .ci "a", .own .la "a", .word 0, .word 7, .own .se "bb"]
theorem five_ok : ∀ l ∈ five, l.ok = true := by
  intro l hl
  simp only [five, List.mem_cons, List.not_mem_nil, or_false] at hl
  rcases hl with rfl | rfl | rfl | rfl | rfl <;> decide +kernel
theorem ite_both {I : Type} {F : I → Cx} {K : PySem.W.Frag} {a b : Expr} {ρ : DL.Env} {R : Rs} {Φ : Φ1} {p q : Prop} (Φ' : Φ1) (h : ∀ d R', Φ' d R' → Φ d R') (g : (p → DE F K a ρ R Φ') ∧ (q → DE F K b ρ R Φ')) : (p → DE F K a ρ R Φ) ∧ (q → DE F K b ρ R Φ) := ⟨fun e => (g.1 e).imp h, fun e => (g.2 e).imp h⟩
def natsD (A : List Nat) : List D := A.map fun n : Nat => D.int (n : Int)
def AnyB : PostD := fun ds R d R' => ∀ (c : Nat) (S : Rs), ds = [.own 1, .int 12] → St R c S → ∃ (c' : Nat) (rs : List Ru), St R' c' S ∧ c ≤ c' ∧ c' ≤ c + 200 ∧ d = .lst (rs.map Ru.d) ∧ (∀ r ∈ rs, Fine r) ∧ 0 < rs.length ∧ rs.length ≤ 12
theorem c_any_rules {W : World0} (T : Text W) : Cal W 3 "_law_any_rules" 2 (fun ds R => ∃ (c : Nat) (S : Rs), ds = [.own 1, .int 12] ∧ St R c S ∧ c + 200 < 2 ^ 40) AnyB ["stream", "many"] := by
  refine cal_t T.d_law_any_rules ⟨rfl, rfl, rfl, by decide +kernel, rfl, by decide +kernel, by decide +kernel⟩ rfl (fun _ _ _ _ _ _ us hl => match us, hl with | [_, _], _ => rfl) (N := ["stream", "many", "layers", "found", "k", "sizes", "takes", "one", "puts"]) ?_
  rintro ds R hl ⟨c, S, rfl, hS, hc⟩ hR hd f cd Ar outer s H E Fm
  have hRl := hS.len
  have ele : R.length = S.length + 2 + 0 := by omega
  walk_at "d"
  refine de_lst ?_
  walk_at "d"
  refine de_call (c_mixed T) Fm (by decide) (fun _ => rfl) ?_
  walk_at "d"
  refine ⟨rfl, ⟨c, S, _, five.map Ly.d, rfl, hS, by simp [five]; omega, .lst, nofun, lys_lt _ _, by decide⟩, ?_⟩
  rintro d R2 hB
  obtain ⟨hS2, ys, rfl, hp⟩ := hB _ _ _ (five.map Ly.d) rfl hS .lst
  obtain ⟨l5, rfl, hl5, hn5⟩ := lys_of hp
  walk_at "di"
  refine de_call (c_draw T) Fm (by decide) (fun _ => rfl) ?_
  walk_at "d"
  refine ⟨rfl, ⟨c + 5, S, 3, rfl, hS2, by omega, by omega, by omega⟩, ?_⟩
  rintro d R3 hB
  obtain ⟨hS3, r, rfl, hr0, hr1⟩ := hB _ _ _ rfl hS2
  obtain ⟨rn, rfl⟩ := Int.eq_ofNat_of_zero_le hr0
  walk_at "d"
  refine ⟨_, .lst, ?_⟩
  rw [show (2 + (rn : Int)) = ((2 + rn : Nat) : Int) from by omega, cut_take, ← List.map_take]
  have hlo : ∀ l ∈ l5.take (2 + rn), l.ok = true := fun l hl => five_ok l (hl5 l (List.mem_of_mem_take hl))
  have hln : 2 ≤ (l5.take (2 + rn)).length := by
    rw [List.length_take, hn5]
    show 2 ≤ min (2 + rn) 5
    omega
  have hlm : (l5.take (2 + rn)).length ≤ 5 := by
    rw [List.length_take, hn5]
    show min (2 + rn) 5 ≤ 5
    omega
  generalize l5.take (2 + rn) = la at hlo hln hlm ⊢
  refine da_cons ?_
  refine de_lstO ?_
  walk_at "d"
  have hRl3 := hS3.len
  have e3 : R3.length = S.length + 2 + 0 := by omega
  rw [show D.own R3.length = D.own (S.length + 2 + 0) from by rw [e3]]
  have hS4 : St (R3 ++ [.lst []]) (c + 5 + 1) (S ++ [.lst []]) := hS3.more _
  refine dg_tup Fm.toFam (.inl rfl) rfl ?_
  walk_at "d"
  refine ds_for Fm.toFam ?_
  refine di_range1 Fm.toFam (fun _ => rfl) T.bl.range ?_
  walk_at "di"
  refine de_call (c_draw T) Fm (by decide) (fun _ => rfl) ?_
  walk_at "d"
  refine ⟨rfl, ⟨_, _, 12, rfl, hS4, by omega, by omega, by omega⟩, ?_⟩
  rintro d R4 hB
  obtain ⟨hS5, r2, rfl, hr2, hr3⟩ := hB _ _ _ rfl hS4
  refine ⟨1, r2, rfl, rfl, ?_⟩
  obtain ⟨rm, rfl⟩ := Int.eq_ofNat_of_zero_le hr2
  refine ⟨_, rfl, by omega, ?_⟩
  refine ⟨fun i ρ' R' => ∃ (c' : Nat) (rs : List Ru) (z1 z2 z3 z4 : Option D), St R' c' (S ++ [.lst (rs.map Ru.d)]) ∧ c ≤ c' ∧ c' ≤ c + 7 + 15 * i ∧ (∀ r ∈ rs, Fine r) ∧ rs.length = i ∧ i ≤ 12 ∧
      ρ' = [some (.own 1), some (.int 12), some (.lst (la.map Ly.d)), some (.own (S.length + 2 + 0)), z1, z2, z3, none, z4],
    ⟨_, [], none, none, none, none, hS5, by omega, by omega, nofun, rfl, by omega, rfl⟩, fun _ _ _ _ => trivial, ?_, ?_⟩
  · rintro i y ρ' R' hy ⟨c', rs, z1, z2, z3, z4, hS6, hc1, hc2, hf, hlen, hi12, rfl⟩
    obtain ⟨hi, rfl⟩ := upTo_at hy
    rw [Int.zero_add]
    walk_at "d"
    refine de_lst ?_
    walk_at "d"
    refine de_lst ?_
    walk_at "d"
    refine ite_both (fun d R2 => ∃ A B : List Nat, d = .tup [.lst (natsD A), .lst (natsD B)] ∧ R2 = R' ∧ (∀ n ∈ A, n ≤ 6) ∧ (∀ n ∈ B, n ≤ 6) ∧ 0 < A.length ∧ 0 < B.length ∧ A.length < 100 ∧ B.length < 100) (fun d R2 ⟨A, B, hd2, hR2, hA, hB, hA0, hB0, hA1, hB1⟩ => ?_) ?_
    rotate_left
    · refine ⟨fun hk => ?_, fun hk => ?_⟩
      · walk_at "d"
        exact ⟨[0, 1, 1, 1, 1, 2, 2, 3, 4, 6], [0, 0, 0, 1, 1, 2, 3, 4, 6], rfl, rfl, by decide, by decide, by decide, by decide, by decide, by decide⟩
      · walk_at "d"
        refine de_lst ?_
        walk_at "d"
        refine de_lst ?_
        walk_at "d"
        exact ⟨[0, 1, 1, 1, 2], [0, 0, 1, 1, 2], rfl, rfl, by decide, by decide, by decide, by decide, by decide, by decide⟩
    · subst hd2 hR2
      walk_at "d"
      refine ds_setLc 6 Fm (by decide +kernel) (fun _ => rfl) (fun _ => rfl) (own := [("one", 7)]) (fun _ => blk_by (by kernel_rfl)) ?_
      refine di_range1 Fm.toFam (fun _ => rfl) T.bl.range ?_
      walk_at "d"
      refine de_call (c_pick T) Fm (by decide) (fun _ => rfl) ?_
      walk_at "d"
      refine ⟨_, 0, _, .tup, rfl, rfl, ?_⟩
      walk_at "d"
      refine ⟨rfl, ⟨c', _, _, natsD A, rfl, hS6, by omega, .inr (.inl rfl), by unfold natsD; rw [List.length_map]; omega, by unfold natsD; rw [List.length_map]; omega⟩, ?_⟩
      rintro d R7 hB9
      obtain ⟨uS, um⟩ := hB9 _ _ _ _ rfl hS6 (.inr (.inl rfl))
      obtain ⟨un, ua, rfl⟩ := List.mem_map.mp um
      have u6 := hA un ua
      refine ⟨_, rfl, by omega, ?_⟩
      refine ⟨fun j ys R' => ∃ (c2 : Nat) (ks : List Ly), St R' c2 (S ++ [.lst (rs.map Ru.d)]) ∧ c' + 1 ≤ c2 ∧ c2 ≤ c' + 1 + j ∧ ys = ks.map Ly.d ∧ (∀ l ∈ ks, l.ok = true) ∧ ks.length = j ∧ j ≤ un,
        ⟨c' + 1, [], uS, by omega, by omega, rfl, nofun, rfl, by omega⟩, ?_, ?_, ?_⟩
      · rintro j ys R' ⟨c2, ks, a1, a2, a3, rfl, a5, a6, a7⟩
        have := sizeLine_eq
        exact ⟨trivial, by simp; omega⟩
      · rintro j y ys R' hy ⟨c2, ks, a1, a2, a3, rfl, a5, a6, a7⟩
        obtain ⟨hj, rfl⟩ := upTo_at hy
        walk_at "d"
        refine de_call (c_pick T) (by walk_at "fw") (by decide) (fun _ => rfl) ?_
        walk_at "d"
        refine ⟨rfl, ⟨c2, _, _, la.map Ly.d, rfl, a1, by omega, .inr (.inl rfl), by rw [List.length_map]; omega, by rw [List.length_map]; omega⟩, ?_⟩
        rintro d R4 hB
        obtain ⟨b1, b2⟩ := hB _ _ _ _ rfl a1 (.inr (.inl rfl))
        obtain ⟨l, hl, rfl⟩ := List.mem_map.mp b2
        refine ⟨c2 + 1, ks ++ [l], b1, by omega, by omega, by simp, ?_, by simp [a6], by omega⟩
        intro k hk
        rcases List.mem_append.mp hk with hk | hk
        · exact a5 k hk
        · rw [List.mem_singleton.mp hk]
          exact hlo l hl
      rintro ys R8 ⟨c3, k1, hS7, ub2, ub3, rfl, ub5, ub6, ub7⟩
      rw [upTo_len] at ub3 ub6 ub7
      walk_at "d"
      refine ds_setLc 8 Fm (by decide +kernel) (fun _ => rfl) (fun _ => rfl) (own := [("one", 7)]) (fun _ => blk_by (by kernel_rfl)) ?_
      refine di_range1 Fm.toFam (fun _ => rfl) T.bl.range ?_
      walk_at "d"
      refine de_call (c_pick T) Fm (by decide) (fun _ => rfl) ?_
      walk_at "d"
      refine ⟨_, 1, _, .tup, rfl, rfl, ?_⟩
      walk_at "d"
      refine ⟨rfl, ⟨c3, _, _, natsD B, rfl, hS7, by omega, .inr (.inl rfl), by unfold natsD; rw [List.length_map]; omega, by unfold natsD; rw [List.length_map]; omega⟩, ?_⟩
      rintro d R9 hB9
      obtain ⟨vS, vm⟩ := hB9 _ _ _ _ rfl hS7 (.inr (.inl rfl))
      obtain ⟨vn, va, rfl⟩ := List.mem_map.mp vm
      have v6 := hB vn va
      refine ⟨_, rfl, by omega, ?_⟩
      refine ⟨fun j ys R' => ∃ (c2 : Nat) (ks : List Ly), St R' c2 (S ++ [.lst (rs.map Ru.d)]) ∧ c3 + 1 ≤ c2 ∧ c2 ≤ c3 + 1 + j ∧ ys = ks.map Ly.d ∧ (∀ l ∈ ks, l.ok = true) ∧ ks.length = j ∧ j ≤ vn,
        ⟨c3 + 1, [], vS, by omega, by omega, rfl, nofun, rfl, by omega⟩, ?_, ?_, ?_⟩
      · rintro j ys R' ⟨c2, ks, a1, a2, a3, rfl, a5, a6, a7⟩
        have := sizeLine_eq
        exact ⟨trivial, by simp; omega⟩
      · rintro j y ys R' hy ⟨c2, ks, a1, a2, a3, rfl, a5, a6, a7⟩
        obtain ⟨hj, rfl⟩ := upTo_at hy
        walk_at "d"
        refine de_call (c_pick T) (by walk_at "fw") (by decide) (fun _ => rfl) ?_
        walk_at "d"
        refine ⟨rfl, ⟨c2, _, _, la.map Ly.d, rfl, a1, by omega, .inr (.inl rfl), by rw [List.length_map]; omega, by rw [List.length_map]; omega⟩, ?_⟩
        rintro d R4 hB9
        obtain ⟨b1, b2⟩ := hB9 _ _ _ _ rfl a1 (.inr (.inl rfl))
        obtain ⟨l, hl, rfl⟩ := List.mem_map.mp b2
        refine ⟨c2 + 1, ks ++ [l], b1, by omega, by omega, by simp, ?_, by simp [a6], by omega⟩
        intro k hk
        rcases List.mem_append.mp hk with hk | hk
        · exact a5 k hk
        · rw [List.mem_singleton.mp hk]
          exact hlo l hl
      rintro ys R10 ⟨c4, k2, hS8, vb2, vb3, rfl, vb5, vb6, vb7⟩
      rw [upTo_len] at vb3 vb6 vb7
      walk_at "d"
      obtain ⟨l0, hl0⟩ : ∃ l, la[0]? = some l := ⟨_, List.getElem?_eq_getElem (by omega)⟩
      refine ⟨_, rs.map Ru.d, rfl, hS8.at 0, ?_⟩
      walk_at "d"
      refine de_call (c_pick T) Fm (by decide) (fun _ => rfl) ?_
      walk_at "d"
      refine de_lst ?_
      walk_at "d"
      refine ⟨_, 0, l0.d, .lst, rfl, atI_nat (j := 0) (by rw [List.getElem?_map, hl0]; rfl), ?_⟩
      walk_at "d"
      refine ⟨rfl, ⟨c4, _, _, [.non, .int 0, .str "x", .tup [.str "take", l0.d]], rfl, hS8, by omega, .inr (.inl rfl), by simp, by simp⟩, ?_⟩
      rintro d R11 hB9
      obtain ⟨hS9, hm⟩ := hB9 _ _ _ _ rfl hS8 (.inr (.inl rfl))
      have hmv : D.tt 2 d = true := by
        simp only [List.mem_cons, List.not_mem_nil, or_false] at hm
        rcases hm with rfl | rfl | rfl | rfl
        · rfl
        · rfl
        · rfl
        · cases l0 <;> rfl
      have hsm : Small d := by
        simp only [List.mem_cons, List.not_mem_nil, or_false] at hm
        rcases hm with rfl | rfl | rfl | rfl
        · exact ⟨rfl, by decide, rfl, rfl⟩
        · exact small_int 0 (by decide)
        · exact ⟨by decide +kernel, by decide +kernel, rfl, rfl⟩
        · obtain ⟨q1, q2, q3, q4⟩ := small_ly l0 (hlo l0 (List.mem_of_getElem? hl0))
          refine ⟨?_, ?_, ?_, ?_⟩
          · show ((PyData.str "take").leavesShort 16 && (l0.d.py.leavesShort 16 && true)) = true
            rw [q1]
            decide +kernel
          · show (PyData.str "take").bulk + 1 + (l0.d.py.bulk + 1 + 0) ≤ 100
            have : (PyData.str "take").bulk = 4 := by decide +kernel
            omega
          · show ((PyData.str "take").showable && (l0.d.py.showable && true)) = true
            rw [q3]
            rfl
          · show ((PyData.str "take").hasDict || (l0.d.py.hasDict || false)) = false
            rw [q4]
            rfl
      walk_at "d"
      refine ⟨rs.map Ru.d, hS9.at 0, by rw [sizeLine_eq]; simp; omega, ?_⟩
      have hS10 := hS9.put 0 (.lst (rs.map Ru.d ++ [(⟨k1, k2, d⟩ : Ru).d]))
      refine ⟨c4 + 1, rs ++ [⟨k1, k2, d⟩], _, _, _, _, ?_, by omega, by omega, ?_, by simp [hlen], by omega, rfl⟩
      · rw [List.map_append]
        exact hS10
      · intro q hq
        rcases List.mem_append.mp hq with hq | hq
        · exact hf q hq
        · rw [List.mem_singleton.mp hq]
          exact ⟨ub5, show k1.length ≤ 6 from by omega, vb5, show k2.length ≤ 6 from by omega, hmv, hsm⟩
  · rintro ρ' R' ⟨c', rs, z1, z2, z3, z4, hS6, hc1, hc2, hf, hlen, hi12, rfl⟩
    refine dss_one (ds_retF ?_)
    walk_at "d"
    rw [upTo_len] at hlen hi12 hc2
    refine ⟨_, rs.map Ru.d, rfl, hS6.at 0, ?_⟩
    have hS7 := hS6.put 0 .gone
    refine hS.ret hR hS7 (lt_all fun d hd => ?_) ?_
    · obtain ⟨q, hq, rfl⟩ := List.mem_map.mp hd
      exact Fine.lt _ (hf q hq)
    · intro R6 hS8 c2 S' e1 e2
      obtain ⟨rfl, rfl⟩ := hS.uniq e2
      refine ⟨_, rs, hS8, by omega, by omega, rfl, hf, by omega, by omega⟩
def DrawnB : PostD := fun ds R d R' => ∀ (c : Nat) (S : Rs), ds = [.own 1] → St R c S → ∃ (c' : Nat) (rs : List Ru), St R' c' S ∧ c ≤ c' ∧ c' ≤ c + 210 ∧ d = .lst (rs.map Ru.d) ∧ (∀ r ∈ rs, Fine r) ∧ 0 < rs.length ∧ rs.length ≤ 12
theorem c_drawn_rules {W : World0} (T : Text W) : Cal W 4 "_law_drawn_rules" 1 (fun ds R => ∃ (c : Nat) (S : Rs), ds = [.own 1] ∧ St R c S ∧ c + 210 < 2 ^ 40) DrawnB ["stream"] := by
  refine cal_t T.d_law_drawn_rules ⟨rfl, rfl, rfl, by decide +kernel, rfl, by decide +kernel, by decide +kernel⟩ rfl (fun _ _ _ _ _ _ us hl => match us, hl with | [_], _ => rfl) (N := ["stream"]) ?_
  rintro ds R hl ⟨c, S, rfl, hS, hc⟩ hR hd f cd Ar outer s H E Fm
  walk_at "d"
  refine de_call (c_draw T) Fm (by decide) (fun _ => rfl) ?_
  walk_at "d"
  refine ⟨rfl, ⟨c, _, 4, rfl, hS, by omega, by omega, by omega⟩, ?_⟩
  rintro d R2 hB
  obtain ⟨hS2, r, rfl, hr0, hr1⟩ := hB _ _ _ rfl hS
  walk_at "d"
  refine ⟨0, 0, rfl, rfl, by decide, ?_⟩
  have fin : ∀ (c' : Nat) (rs : List Ru) (R' : Rs), St R' c' S → c ≤ c' → c' ≤ c + 210 → (∀ r ∈ rs, Fine r) → 0 < rs.length → rs.length ≤ 12 → RetOk R.length (DrawnB [.own 1] R) (.lst (rs.map Ru.d)) R' := by
    intro c' rs R' h1 h2 h3 h4 h5 h6
    refine hS.ret (T := []) hR (by rw [List.append_nil]; exact h1) (lt_all fun d hd => ?_) ?_
    · obtain ⟨q, hq, rfl⟩ := List.mem_map.mp hd
      exact Fine.lt _ (h4 q hq)
    · intro R6 hS6 c2 S' e1 e2
      obtain ⟨rfl, rfl⟩ := hS.uniq e2
      exact ⟨_, rs, hS6, h2, h3, rfl, h4, h5, h6⟩
  refine ⟨fun hk => ?_, fun hk => ?_⟩
  · walk_at "d"
    refine de_call (c_climbing T) Fm (by decide) (fun _ => rfl) ?_
    walk_at "di"
    refine de_call (c_draw T) Fm (by decide) (fun _ => rfl) ?_
    walk_at "d"
    refine ⟨rfl, ⟨c + 1, _, 5, rfl, hS2, by omega, by omega, by omega⟩, ?_⟩
    rintro d R3 hB2
    obtain ⟨hS3, r2, rfl, hr2, hr3⟩ := hB2 _ _ _ rfl hS2
    obtain ⟨rn, rfl⟩ := Int.eq_ofNat_of_zero_le hr2
    walk_at "di"
    refine ⟨rfl, ⟨c + 1 + 1, 2 + rn, S, rfl, hS3, by omega, by omega, by omega⟩, ?_⟩
    rintro d R4 hB3
    obtain ⟨c', rs, h1, h2, h3, rfl, h4, h5, h6⟩ := hB3 _ _ _ rfl hS3
    exact fin c' rs _ h1 (by omega) (by omega) h4 h5 h6
  · walk_at "d"
    refine de_call (c_any_rules T) Fm (by decide) (fun _ => rfl) ?_
    walk_at "d"
    refine ⟨rfl, ⟨c + 1, S, rfl, hS2, by omega⟩, ?_⟩
    rintro d R4 hB3
    obtain ⟨c', rs, h1, h2, h3, rfl, h4, h5, h6⟩ := hB3 _ _ rfl hS2
    exact fin c' rs _ h1 (by omega) (by omega) h4 h5 h6
theorem cmp_ly (l m : Ly) : cmpb l.d.py m.d.py = true := by
  cases l with
  | own k z =>
    cases m with
    | own k2 z2 => cases k <;> cases k2 <;> simp [Ly.d, Ly.k, Ly.w, kindS, D.py, D.pyAll, cmpb, cmpbAll, PyData.eqv]
    | word n => cases k <;> simp [Ly.d, Ly.k, Ly.w, kindS, D.py, D.pyAll, cmpb, cmpbAll, PyData.eqv] <;> decide +kernel
  | word n =>
    cases m with
    | own k z => cases k <;> simp [Ly.d, Ly.k, Ly.w, kindS, D.py, D.pyAll, cmpb, cmpbAll, PyData.eqv] <;> decide +kernel
    | word n => simp [Ly.d, Ly.k, Ly.w, kindS, D.py, D.pyAll, cmpb, cmpbAll, PyData.eqv]
theorem sb_lys (ls : List Ly) : Sb (D.pyAll (ls.map Ly.d)) := by
  rw [py_map, List.map_map]
  refine ⟨fun d hd => ?_, fun d hd e he => ?_, .inl fun d hd => ?_⟩
  · obtain ⟨l, _, rfl⟩ := List.mem_map.mp hd
    exact (D.ok_plain 1 l.d (tt_ok _ _ (ly_tt l))).1
  · obtain ⟨l, _, rfl⟩ := List.mem_map.mp hd
    obtain ⟨m, _, rfl⟩ := List.mem_map.mp he
    exact cmp_ly l m
  · obtain ⟨l, _, rfl⟩ := List.mem_map.mp hd
    exact ⟨_, rfl⟩
theorem once_mem : ∀ (xs acc : List D) (d : D), d ∈ onceD acc xs → d ∈ acc ∨ d ∈ xs
  | [], _, _, h => .inl h
  | x :: xs, acc, d, h => by
    rw [onceD] at h
    split at h
    · exact (once_mem xs _ d h).imp id (List.mem_cons_of_mem _)
    · rcases once_mem xs _ d h with h | h
      · rcases List.mem_append.mp h with h | h
        · exact .inl h
        · exact .inr (by rw [List.mem_singleton.mp h]; simp)
      · exact .inr (List.mem_cons_of_mem _ h)
theorem once_len : ∀ (xs acc : List D), (onceD acc xs).length ≤ acc.length + xs.length
  | [], _ => by simp [onceD]
  | x :: xs, acc => by
    rw [onceD]
    split
    · have := once_len xs acc
      simp; omega
    · have := once_len xs (acc ++ [x])
      simp at this ⊢
      omega
theorem lys_sub {ys : List D} {P : Ly → Prop} (h : ∀ y ∈ ys, ∃ l, P l ∧ y = l.d) : ∃ ls : List Ly, ys = ls.map Ly.d ∧ ∀ l ∈ ls, P l := by
  induction ys with
  | nil => exact ⟨[], rfl, nofun⟩
  | cons z zs ih =>
    obtain ⟨l, hl, rfl⟩ := h z (by simp)
    obtain ⟨ls, rfl, h2⟩ := ih fun z m => h z (List.mem_cons_of_mem _ m)
    exact ⟨l :: ls, rfl, fun k m => (List.mem_cons.mp m).elim (fun e => e ▸ hl) (h2 k)⟩
theorem lys_ok (n : Nat) (hn : 1 ≤ n) (ls : List Ly) : D.okAll n (ls.map Ly.d) = true := okAll_of fun d m => by
  obtain ⟨l, _, rfl⟩ := List.mem_map.mp m
  obtain ⟨k, rfl⟩ := Nat.exists_eq_add_of_le' hn
  cases l <;> cases k <;> rfl
def LinB : PostD := fun ds R d R' => R' = R ∧ ∃ ls : List Ly, d = .lst (ls.map Ly.d) ∧ (∀ l ∈ ls, l.ok = true) ∧ ls.length ≤ 144
theorem c_layers_in {W : World0} (T : Text W) : Cal W 2 "_law_layers_in" 1 (fun ds R => ∃ rs : List Ru, ds = [.lst (rs.map Ru.d)] ∧ (∀ r ∈ rs, Fine r) ∧ rs.length ≤ 12) LinB ["lot"] := by
  refine cal_t T.d_law_layers_in ⟨rfl, rfl, rfl, by decide +kernel, rfl, by decide +kernel, by decide +kernel⟩ rfl (fun _ _ _ _ _ _ us hl => match us, hl with | [_], _ => rfl) (N := ["lot", "found", "takes", "puts", "move"]) ?_
  rintro ds R hl ⟨rs, rfl, hf, hlen⟩ hR hd f cd Ar outer s H E Fm
  walk_at "d"
  refine de_lstO ?_
  walk_at "d"
  refine ds_for Fm.toFam ?_
  refine di_list Fm.toFam ?_
  walk_at "d"
  refine ⟨rs.map Ru.d, .lst, fun i ρ' R' => ∃ (ls : List Ly) (z1 z2 z3 : Option D), R' = R ++ [.lst (ls.map Ly.d)] ∧ (∀ l ∈ ls, l.ok = true) ∧ ls.length ≤ 12 * i ∧ i ≤ 12 ∧ ρ' = [some (.lst (rs.map Ru.d)), some (.own R.length), z1, z2, z3],
    ⟨[], none, none, none, rfl, nofun, by simp, by omega, rfl⟩, fun _ _ _ _ => .lst, ?_, ?_⟩
  · rintro i y ρ' R' hy ⟨ls, z1, z2, z3, rfl, hok, hl1, hi, rfl⟩
    rw [List.getElem?_map] at hy
    obtain ⟨r, hr, rfl⟩ := Option.map_eq_some_iff.mp hy
    have hfr := hf r (List.mem_of_getElem? hr)
    have hil := (List.getElem?_eq_some_iff.mp hr).1
    refine dg_tup Fm.toFam (.inl rfl) rfl ?_
    walk_at "d"
    refine ⟨_, ls.map Ly.d, rfl, snd_at, ?_⟩
    refine e_addL ?_
    refine e_list T.bl Fm.toFam (fun _ => rfl) ?_
    walk_at "d"
    refine ⟨_, .lst, ?_⟩
    refine e_list T.bl Fm.toFam (fun _ => rfl) ?_
    walk_at "d"
    refine ⟨_, .lst, ?_⟩
    have h1 := hfr.tl
    have h2 := hfr.pl
    refine ⟨_, _, rfl, rfl, by rw [sizeLine_eq]; simp; omega, ?_⟩
    walk_at "d"
    refine ⟨ls.map Ly.d, (r.ts ++ r.ps).map Ly.d, by rw [List.map_append], snd_at, by rw [sizeLine_eq]; simp; omega, ?_⟩
    rw [snd_set, ← List.map_append]
    refine ⟨ls ++ (r.ts ++ r.ps), _, _, _, rfl, ?_, by simp; omega, by omega, rfl⟩
    intro l hl
    rcases List.mem_append.mp hl with hl | hl
    · exact hok l hl
    · rcases List.mem_append.mp hl with hl | hl
      · exact hfr.ts l hl
      · exact hfr.ps l hl
  · rintro ρ' R' ⟨ls, z1, z2, z3, rfl, hok, hl1, hi, rfl⟩
    walk_at "d"
    refine e_sorted T.bl Fm.toFam (fun _ => rfl) ?_
    refine de_call (c_once T) Fm (by decide) (fun _ => rfl) ?_
    walk_at "d"
    rw [List.length_map] at hl1
    refine ⟨rfl, ⟨_, ls.map Ly.d, rfl, .own snd_at, lys_ok 58 (by decide) ls, by simp; omega, lys_lt _ ls⟩, ?_⟩
    rintro d R2 hB
    obtain ⟨rfl, rfl⟩ := hB _ _ rfl (.own snd_at)
    obtain ⟨ks, e1, h2⟩ := lys_sub (P := fun l => l ∈ ls) (ys := onceD [] (ls.map Ly.d)) fun y hy => by
      obtain ⟨l, hl, rfl⟩ := List.mem_map.mp ((once_mem _ _ _ hy).resolve_left (by simp))
      exact ⟨l, hl, rfl⟩
    have h3 := once_len (ls.map Ly.d) []
    rw [e1] at h3 ⊢
    refine ⟨_, 58, .lst, lys_ok 58 (by decide) ks, by decide, sb_lys ks, ?_⟩
    obtain ⟨qs, e2, h4⟩ := lys_sub (P := fun l => l ∈ ks) (ys := sortD (ks.map Ly.d)) fun y hy => by
      obtain ⟨l, hl, rfl⟩ := List.mem_map.mp ((List.mergeSort_perm _ _).mem_iff.mp hy)
      exact ⟨l, hl, rfl⟩
    have h5 := sortD_len (ks.map Ly.d)
    rw [e2] at h5 ⊢
    refine .cut R [.lst (ls.map Ly.d)] rfl rfl hR (lys_lt _ qs) ⟨rfl, qs, rfl, fun l hl => hok l (h2 l (h4 l hl)), ?_⟩
    simp at h3 h5
    omega
def tupL (ks : List Ly) : D := .tup (ks.map Ly.d)
def begs (r : Ru) : List D := (List.range r.ts.length).map fun n => tupL (r.ts.take n)
def ctlAll (rs : List Ru) : List D := .tup [] :: (rs.map begs).flatten
def ctlD (rs : List Ru) : D := .lst (sortD (onceD [] (ctlAll rs)))
theorem cmp_lys : ∀ ls ms : List Ly, cmpbAll (D.pyAll (ls.map Ly.d)) (D.pyAll (ms.map Ly.d)) = true
  | [], _ => by simp [D.pyAll, cmpbAll]
  | l :: ls, [] => rfl
  | l :: ls, m :: ms => by
    rw [List.map_cons, List.map_cons, D.pyAll, D.pyAll, cmpbAll]
    rw [cmp_lys ls ms, cmp_ly l m]
    split <;> rfl
theorem tupL_ok (n : Nat) (hn : 2 ≤ n) (ks : List Ly) : D.ok n (tupL ks) = true := by
  obtain ⟨k, rfl⟩ := Nat.exists_eq_add_of_le' hn
  exact lys_ok (k + 1) (by omega) ks
theorem tupLs_ok (n : Nat) (hn : 2 ≤ n) {ds : List D} (h : ∀ d ∈ ds, ∃ ks, d = tupL ks) : D.okAll n ds = true := okAll_of fun d m => by
  obtain ⟨ks, rfl⟩ := h d m
  exact tupL_ok n hn ks
theorem sb_tupLs {ds : List D} (h : ∀ d ∈ ds, ∃ ks, d = tupL ks) : Sb (D.pyAll ds) := by
  rw [py_map]
  refine ⟨fun d hd => ?_, fun d hd e he => ?_, .inl fun d hd => ?_⟩
  · obtain ⟨x, hx, rfl⟩ := List.mem_map.mp hd
    obtain ⟨ks, rfl⟩ := h x hx
    exact (D.ok_plain 2 _ (tupL_ok 2 (by decide) ks)).1
  · obtain ⟨x, hx, rfl⟩ := List.mem_map.mp hd
    obtain ⟨y, hy, rfl⟩ := List.mem_map.mp he
    obtain ⟨ks, rfl⟩ := h x hx
    obtain ⟨ms, rfl⟩ := h y hy
    exact cmp_lys ks ms
  · obtain ⟨x, hx, rfl⟩ := List.mem_map.mp hd
    obtain ⟨ks, rfl⟩ := h x hx
    exact ⟨_, rfl⟩
theorem begs_tup (r : Ru) : ∀ d ∈ begs r, ∃ ks, d = tupL ks := fun d hd => by
  obtain ⟨n, _, rfl⟩ := List.mem_map.mp hd
  exact ⟨_, rfl⟩
theorem ctlAll_tup (rs : List Ru) : ∀ d ∈ ctlAll rs, ∃ ks, d = tupL ks := fun d hd => by
  rcases List.mem_cons.mp hd with rfl | hd
  · exact ⟨[], rfl⟩
  · obtain ⟨l, hl, hd⟩ := List.mem_flatten.mp hd
    obtain ⟨r, _, rfl⟩ := List.mem_map.mp hl
    exact begs_tup r d hd
theorem begs_len {r : Ru} (h : Fine r) : (begs r).length ≤ 6 := by
  unfold begs
  rw [List.length_map, List.length_range]
  exact h.tl
theorem c_law_controls {W : World0} (T : Text W) : Cal W 2 "_law_controls" 1 (fun ds R => ∃ rs : List Ru, ds = [.lst (rs.map Ru.d)] ∧ (∀ r ∈ rs, Fine r) ∧ rs.length ≤ 12)
    (fun ds R d R' => R' = R ∧ ∀ rs : List Ru, ds = [.lst (rs.map Ru.d)] → d = ctlD rs) ["lot"] := by
  refine cal_t T.d_law_controls ⟨rfl, rfl, rfl, by decide +kernel, rfl, by decide +kernel, by decide +kernel⟩ rfl (fun _ _ _ _ _ _ us hl => match us, hl with | [_], _ => rfl) (N := ["lot", "found", "takes", "puts", "move", "many"]) ?_
  rintro ds R hl ⟨rs, rfl, hf, hlen⟩ hR hd f cd Ar outer s H E Fm
  walk_at "d"
  refine de_lstO ?_
  walk_at "d"
  refine ds_for Fm.toFam ?_
  refine di_list Fm.toFam ?_
  walk_at "d"
  refine ⟨rs.map Ru.d, .lst, fun i ρ' R' => ∃ (z1 z2 z3 : Option D), R' = R ++ [.lst (ctlAll (rs.take i))] ∧ (ctlAll (rs.take i)).length ≤ 1 + 6 * i ∧ i ≤ 12 ∧ ρ' = [some (.lst (rs.map Ru.d)), some (.own R.length), z1, z2, z3, none],
    ⟨none, none, none, rfl, by simp [ctlAll], by omega, rfl⟩, fun _ _ _ _ => .lst, ?_, ?_⟩
  · rintro i y ρ' R' hy ⟨z1, z2, z3, rfl, hl1, hi, rfl⟩
    rw [List.getElem?_map] at hy
    obtain ⟨r, hr, rfl⟩ := Option.map_eq_some_iff.mp hy
    have hfr := hf r (List.mem_of_getElem? hr)
    have hil := (List.getElem?_eq_some_iff.mp hr).1
    have htl := hfr.tl
    have hbl := begs_len hfr
    have happ : ctlAll (rs.take (i + 1)) = ctlAll (rs.take i) ++ begs r := by
      unfold ctlAll
      rw [List.take_succ, hr]
      simp
    refine dg_tup Fm.toFam (.inl rfl) rfl ?_
    walk_at "d"
    refine ⟨_, ctlAll (rs.take i), rfl, snd_at, ?_⟩
    refine de_lc (own := [("many", 5)]) Fm (fun _ => blk_by (by kernel_rfl)) ?_
    refine di_range1 Fm.toFam (fun _ => rfl) T.bl.range ?_
    walk_at "d"
    refine ⟨by rw [List.length_map]; omega, ?_⟩
    refine ⟨fun n ys R' => n ≤ r.ts.length ∧ R' = R ++ [.lst (ctlAll (rs.take i))] ∧ ys = (begs r).take n, ⟨by omega, rfl, rfl⟩, ?_, ?_, ?_⟩
    · rintro n ys R' ⟨h1, rfl, rfl⟩
      have := sizeLine_eq
      exact ⟨trivial, by rw [List.length_take]; omega⟩
    · rintro n y ys R' hy ⟨h1, rfl, rfl⟩
      obtain ⟨hj, rfl⟩ := upTo_at hy
      rw [List.length_map] at hj
      have hn : n < r.ts.length := by omega
      rw [Int.zero_add]
      walk_at "d"
      refine ⟨_, .lst, ?_⟩
      rw [cut_take, ← List.map_take]
      refine ⟨_, .lst, by omega, rfl, ?_⟩
      have e2 : (begs r)[n]? = some (tupL (r.ts.take n)) := by
        unfold begs
        rw [List.getElem?_map, List.getElem?_range hn]
        rfl
      rw [List.take_succ, e2]
      rfl
    · rintro ys R' ⟨h1, rfl, rfl⟩
      rw [upTo_len, List.length_map]
      have e1 : (begs r).take ((r.ts.length : Int).toNat) = begs r := by
        rw [show (r.ts.length : Int).toNat = r.ts.length from by omega, List.take_of_length_le]
        unfold begs
        simp
      rw [e1]
      refine ⟨ctlAll (rs.take i), begs r, rfl, snd_at, by rw [sizeLine_eq]; omega, ?_⟩
      rw [snd_set, ← happ]
      refine ⟨_, _, _, rfl, ?_, by omega, rfl⟩
      rw [happ, List.length_append]
      omega
  · rintro ρ' R' ⟨z1, z2, z3, rfl, hl1, hi, rfl⟩
    rw [List.length_map] at hl1 ⊢
    rw [List.take_length] at hl1 ⊢
    walk_at "d"
    refine e_sorted T.bl Fm.toFam (fun _ => rfl) ?_
    refine de_call (c_once T) Fm (by decide) (fun _ => rfl) ?_
    walk_at "d"
    have ht := ctlAll_tup rs
    refine ⟨rfl, ⟨_, ctlAll rs, rfl, .own snd_at, tupLs_ok 58 (by decide) ht, by omega, okAll_lt 58 _ (tupLs_ok 58 (by decide) ht)⟩, ?_⟩
    rintro d R2 hB
    obtain ⟨rfl, rfl⟩ := hB _ _ rfl (.own snd_at)
    have ht2 : ∀ d ∈ onceD [] (ctlAll rs), ∃ ks, d = tupL ks := fun d hd => ht d ((once_mem _ _ _ hd).resolve_left (by simp))
    refine ⟨_, 58, .lst, tupLs_ok 58 (by decide) ht2, by decide, sb_tupLs ht2, ?_⟩
    have ht3 : ∀ d ∈ sortD (onceD [] (ctlAll rs)), ∃ ks, d = tupL ks := fun d hd => ht2 d ((List.mergeSort_perm _ _).mem_iff.mp hd)
    refine .cut R [.lst (ctlAll rs)] rfl rfl hR (okAll_lt 58 _ (tupLs_ok 58 (by decide) ht3)) ⟨rfl, fun rs' e => ?_⟩
    simp only [List.cons.injEq, D.lst.injEq, and_true] at e
    have := rus_is rs
    rw [e] at this
    rw [(rus_is rs').uniq this]
    rfl
theorem small_lys : ∀ ls : List Ly, (∀ l ∈ ls, l.ok = true) → PyData.leavesShortAll 16 (D.pyAll (ls.map Ly.d)) = true ∧ PyData.bulkAll (D.pyAll (ls.map Ly.d)) ≤ 31 * ls.length ∧ PyData.showableAll (D.pyAll (ls.map Ly.d)) = true ∧ PyData.hasDictAll (D.pyAll (ls.map Ly.d)) = false
  | [], _ => ⟨rfl, Nat.le_refl _, rfl, rfl⟩
  | l :: ls, h => by
    obtain ⟨a1, a2, a3, a4⟩ := small_ly l (h l (by simp))
    obtain ⟨b1, b2, b3, b4⟩ := small_lys ls fun k m => h k (List.mem_cons_of_mem _ m)
    rw [List.map_cons, D.pyAll, PyData.leavesShortAll, PyData.bulkAll, PyData.showableAll, PyData.hasDictAll, a1, a3, a4, b1, b3, b4, List.length_cons]
    exact ⟨rfl, by omega, rfl, rfl⟩
theorem small_ru {r : Ru} (h : Fine r) : r.d.py.leavesShort 16 = true ∧ r.d.py.bulk ≤ 600 ∧ r.d.py.showable = true ∧ r.d.py.hasDict = false := by
  obtain ⟨a1, a2, a3, a4⟩ := small_lys r.ts h.ts
  obtain ⟨b1, b2, b3, b4⟩ := small_lys r.ps h.ps
  obtain ⟨c1, c2, c3, c4⟩ := h.sm
  have h1 := h.tl
  have h2 := h.pl
  refine ⟨?_, ?_, ?_, ?_⟩
  · show (PyData.leavesShortAll 16 (D.pyAll (r.ts.map Ly.d)) && (PyData.leavesShortAll 16 (D.pyAll (r.ps.map Ly.d)) && (r.mv.py.leavesShort 16 && true))) = true
    rw [a1, b1, c1]
    rfl
  · show PyData.bulkAll (D.pyAll (r.ts.map Ly.d)) + 1 + (PyData.bulkAll (D.pyAll (r.ps.map Ly.d)) + 1 + (r.mv.py.bulk + 1 + 0)) ≤ 600
    omega
  · show (PyData.showableAll (D.pyAll (r.ts.map Ly.d)) && (PyData.showableAll (D.pyAll (r.ps.map Ly.d)) && (r.mv.py.showable && true))) = true
    rw [a3, b3, c3]
    rfl
  · show (PyData.hasDictAll (D.pyAll (r.ts.map Ly.d)) || (PyData.hasDictAll (D.pyAll (r.ps.map Ly.d)) || (r.mv.py.hasDict || false))) = false
    rw [a4, b4, c4]
    rfl
theorem small_rus : ∀ rs : List Ru, (∀ r ∈ rs, Fine r) → PyData.leavesShortAll 16 (D.pyAll (rs.map Ru.d)) = true ∧ PyData.bulkAll (D.pyAll (rs.map Ru.d)) ≤ 601 * rs.length ∧ PyData.showableAll (D.pyAll (rs.map Ru.d)) = true ∧ PyData.hasDictAll (D.pyAll (rs.map Ru.d)) = false
  | [], _ => ⟨rfl, Nat.le_refl _, rfl, rfl⟩
  | r :: rs, h => by
    obtain ⟨a1, a2, a3, a4⟩ := small_ru (h r (by simp))
    obtain ⟨b1, b2, b3, b4⟩ := small_rus rs fun k m => h k (List.mem_cons_of_mem _ m)
    rw [List.map_cons, D.pyAll, PyData.leavesShortAll, PyData.bulkAll, PyData.showableAll, PyData.hasDictAll, a1, a3, a4, b1, b3, b4, List.length_cons]
    exact ⟨rfl, by omega, rfl, rfl⟩
theorem shown_rus (rs : List Ru) (h : ∀ r ∈ rs, Fine r) (hl : rs.length ≤ 12) : (D.lst (rs.map Ru.d)).py.shown.length ≤ sizeLine ∧ (D.lst (rs.map Ru.d)).py.showable = true ∧ (D.lst (rs.map Ru.d)).py.hasDict = false := by
  obtain ⟨a1, a2, a3, a4⟩ := small_rus rs h
  refine ⟨?_, a3, a4⟩
  have q := PyData.shown_le_bulk 16 (by decide) (D.lst (rs.map Ru.d)).py a1
  have q2 : (D.lst (rs.map Ru.d)).py.bulk = PyData.bulkAll (D.pyAll (rs.map Ru.d)) := rfl
  rw [q2] at q
  rw [sizeLine_eq]
  have : PyData.bulkAll (D.pyAll (rs.map Ru.d)) ≤ 601 * 12 := by omega
  omega
theorem once_app : ∀ (xs acc ys : List D), onceD acc (xs ++ ys) = onceD (onceD acc xs) ys
  | [], _, _ => rfl
  | x :: xs, acc, ys => by
    rw [List.cons_append, onceD, onceD]
    split
    · exact once_app xs acc ys
    · exact once_app xs (acc ++ [x]) ys
theorem once_keep : ∀ (xs acc : List D) (d : D), d ∈ acc → d ∈ onceD acc xs
  | [], _, _, h => h
  | x :: xs, acc, d, h => by
    rw [onceD]
    split
    · exact once_keep xs acc d h
    · exact once_keep xs _ d (List.mem_append_left _ h)
/-- the beginnings that the program keeps: none of length 0 -/
def begs1 (r : Ru) : List D := (List.range (r.ts.length - 1)).map fun n => tupL (r.ts.take (n + 1))
def keyAll (rs : List Ru) : List D := .tup [] :: (rs.map begs1).flatten
theorem begs_eq (r : Ru) : begs r = begs1 r ∨ begs r = .tup [] :: begs1 r := by
  unfold begs begs1
  cases h : r.ts.length with
  | zero => exact .inl rfl
  | succ k =>
    refine .inr ?_
    rw [List.range_succ_eq_map, List.map_cons, List.map_map]
    rfl
theorem once_begs {acc : List D} (h : D.tup [] ∈ acc) : ∀ rs : List Ru, onceD acc (rs.map begs).flatten = onceD acc (rs.map begs1).flatten := by
  intro rs
  induction rs generalizing acc with
  | nil => rfl
  | cons r rs ih =>
    rw [List.map_cons, List.map_cons, List.flatten_cons, List.flatten_cons, once_app, once_app]
    have e : onceD acc (begs r) = onceD acc (begs1 r) := by
      rcases begs_eq r with e | e
      · rw [e]
      · rw [e, onceD, if_pos]
        rw [py_map, List.any_map, List.any_eq_true]
        exact ⟨.tup [], h, rfl⟩
    rw [e]
    exact ih (once_keep _ _ _ h)
theorem ctl_keys (rs : List Ru) : onceD [] (ctlAll rs) = onceD [] (keyAll rs) := by
  unfold ctlAll keyAll
  rw [onceD, onceD]
  exact once_begs (by simp) rs
def TsShort (rs : List Ru) : Prop := (∀ r ∈ rs, r.ok ∧ r.ts.length ≤ 6 ∧ r.ps.length ≤ 6) ∧ rs.length ≤ 12
theorem tot_le : ∀ {rs : List Ru}, (∀ r ∈ rs, r.ts.length ≤ 6 ∧ r.ps.length ≤ 6) → tot rs ≤ 12 * rs.length
  | [], _ => Nat.le_refl _
  | r :: rs, h => by
    have h1 := h r (by simp)
    have h2 := tot_le (rs := rs) fun q m => h q (List.mem_cons_of_mem _ m)
    simp only [tot, Ru.sz, List.length_cons]
    omega
theorem TsShort.rus {rs : List Ru} (h : TsShort rs) : RusOk rs := ⟨fun r m => (h.1 r m).1, by have := h.2; omega, by have := tot_le fun r m => (h.1 r m).2; have := h.2; omega⟩
def ctlL (rs : List Ru) : List D := sortD (onceD [] (ctlAll rs))
theorem ctlL_lt (n : Nat) (rs : List Ru) : D.ltAll n (ctlL rs) = true := okAll_lt 58 _ (tupLs_ok 58 (by decide) fun d hd => ctlAll_tup rs d ((once_mem _ _ _ ((List.mergeSort_perm _ _).mem_iff.mp hd)).resolve_left (by simp)))
/-- what is still to be shown of controls_of -/
def CtlOf (W : World0) : Prop := Cal W 8 "controls_of" 1 (fun ds R => ∃ rs : List Ru, ds = [.lst (rs.map Ru.d)] ∧ TsShort rs)
  (fun ds R d R' => ∀ rs : List Ru, ds = [.lst (rs.map Ru.d)] → d = .own R.length ∧ R' = R ++ [.lst (ctlL rs)]) ["rules"]
theorem c_controls {W : World0} (T : Text W) (hK : CtlOf W) : Cal W 9 "controls" 1 (fun ds R => ∃ (x : D) (xs : List D) (rs : List Ru), ds = [x] ∧ Seq R x xs ∧ RusIs xs rs ∧ TsShort rs)
    (fun ds R d R' => ∀ (x : D) (xs : List D) (rs : List Ru), ds = [x] → Seq R x xs → RusIs xs rs → d = .own R.length ∧ R' = R ++ [.lst (ctlL rs)]) ["rules"] := by
  refine cal_t T.d_controls ⟨rfl, rfl, rfl, by decide +kernel, rfl, by decide +kernel, by decide +kernel⟩ rfl (fun _ _ _ _ _ _ us hl => match us, hl with | [_], _ => rfl) (N := ["rules"]) ?_
  rintro ds R hl ⟨x, xs, rs, rfl, hx, hrs, hok, hz⟩ hR hd f cd Ar outer s H E Fm
  walk_at "d"
  refine de_call hK Fm (by decide) (fun _ => rfl) ?_
  walk_at "d"
  refine de_call (c_checked_rules T) Fm (by decide) (fun _ => rfl) ?_
  walk_at "d"
  refine ⟨rfl, ⟨x, xs, rs, rfl, hx, hrs, TsShort.rus ⟨hok, hz⟩⟩, ?_⟩
  rintro d R2 ⟨rfl, hB⟩
  cases hB x xs rs rfl hx hrs
  walk_at "d"
  refine ⟨rfl, ⟨rs, rfl, hok, hz⟩, ?_⟩
  rintro d R3 hB2
  obtain ⟨rfl, rfl⟩ := hB2 rs rfl
  refine .one R2 [.lst (ctlL rs)] 0 _ rfl rfl hR rfl (ctlL_lt _ rs) rfl ?_
  intro x' xs' rs' e1 e2 e3
  cases e1
  have := hx.uniq e2
  subst this
  have := hrs.uniq e3
  subst this
  exact ⟨rfl, rfl⟩
theorem sz_ly (l : Ly) : l.d.sz ≤ 5 := by cases l <;> simp [Ly.d, Ly.w, D.sz, D.szAll]
theorem sz_lys : ∀ ls : List Ly, D.szAll (ls.map Ly.d) ≤ 5 * ls.length
  | [] => Nat.le_refl _
  | l :: ls => by
    have h1 := sz_ly l
    have h2 := sz_lys ls
    rw [List.map_cons, D.szAll, List.length_cons]
    omega
theorem sz_all {B : Nat} : ∀ ds : List D, (∀ d ∈ ds, d.sz ≤ B) → D.szAll ds ≤ B * ds.length
  | [], _ => Nat.le_refl _
  | d :: ds, h => by
    have h1 := h d (by simp)
    have h2 := sz_all ds fun e m => h e (List.mem_cons_of_mem _ m)
    rw [D.szAll, List.length_cons, Nat.mul_succ]
    omega
theorem ctl_short {rs : List Ru} (h : TsShort rs) : (∀ d ∈ ctlAll rs, d.sz ≤ 31) ∧ (ctlAll rs).length ≤ 73 := by
  have hb : ∀ r ∈ rs, (begs r).length ≤ 6 := fun r hr => by
    unfold begs
    rw [List.length_map, List.length_range]
    exact (h.1 r hr).2.1
  refine ⟨fun d hd => ?_, ?_⟩
  · rcases List.mem_cons.mp hd with rfl | hd
    · simp [D.sz, D.szAll]
    · obtain ⟨l, hl, hd⟩ := List.mem_flatten.mp hd
      obtain ⟨r, hr, rfl⟩ := List.mem_map.mp hl
      obtain ⟨n, hn, rfl⟩ := List.mem_map.mp hd
      have h1 := sz_lys (r.ts.take n)
      have h2 : (r.ts.take n).length ≤ 6 := by
        rw [List.length_take]
        have := (h.1 r hr).2.1
        omega
      show 1 + D.szAll ((r.ts.take n).map Ly.d) ≤ 31
      omega
  · have : ∀ qs : List Ru, (∀ r ∈ qs, (begs r).length ≤ 6) → ((qs.map begs).flatten).length ≤ 6 * qs.length := by
      intro qs
      induction qs with
      | nil => exact fun _ => Nat.le_refl _
      | cons q qs ih =>
        intro g
        have g1 := g q (by simp)
        have g2 := ih fun r m => g r (List.mem_cons_of_mem _ m)
        rw [List.map_cons, List.flatten_cons, List.length_append, List.length_cons]
        omega
    have h3 := this rs hb
    have h4 := h.2
    unfold ctlAll
    rw [List.length_cons]
    omega
theorem ctlL_ok {rs : List Ru} (h : TsShort rs) : D.okAll 10 (ctlL rs) = true ∧ D.szAll (ctlL rs) < 10000 := by
  obtain ⟨h1, h2⟩ := ctl_short h
  have hm : ∀ d ∈ ctlL rs, d ∈ ctlAll rs := fun d hd => (once_mem _ _ _ ((List.mergeSort_perm _ _).mem_iff.mp hd)).resolve_left (by simp)
  refine ⟨tupLs_ok 10 (by decide) fun d hd => ctlAll_tup rs d (hm d hd), ?_⟩
  have h3 := sz_all (ctlL rs) fun d hd => h1 d (hm d hd)
  have h4 : (ctlL rs).length ≤ 73 := by
    unfold ctlL
    rw [sortD_len]
    have := once_len (ctlAll rs) []
    simp at this
    omega
  omega
/-- the same rules, the third part otherwise -/
def SameR : List Ru → List Ru → Prop
  | [], [] => True
  | q :: qs, r :: rs => (q.ts = r.ts ∧ q.ps = r.ps) ∧ SameR qs rs
  | _, _ => False
theorem SameR.len : ∀ {qs rs : List Ru}, SameR qs rs → qs.length = rs.length
  | [], [], _ => rfl
  | _ :: _, _ :: _, h => congrArg Nat.succ h.2.len
theorem SameR.get : ∀ {qs rs : List Ru}, SameR qs rs → ∀ {i : Nat} {r : Ru}, rs[i]? = some r → ∃ q, qs[i]? = some q ∧ q.ts = r.ts ∧ q.ps = r.ps
  | [], [], _, _, _, h => by simp at h
  | q :: _, _ :: _, h, 0, _, e => by cases e; exact ⟨q, rfl, h.1⟩
  | _ :: _, _ :: _, h, _ + 1, _, e => h.2.get e
theorem SameR.begs : ∀ {qs rs : List Ru}, SameR qs rs → qs.map begs = rs.map begs
  | [], [], _ => rfl
  | q :: _, r :: _, h => by
    rw [List.map_cons, List.map_cons, h.2.begs]
    congr 1
    unfold My.begs
    rw [h.1.1]
theorem SameR.ctl {qs rs : List Ru} (h : SameR qs rs) : ctlL qs = ctlL rs := by
  unfold ctlL ctlAll
  rw [h.begs]
theorem loose_ru {y : D} {r : Ru} (hn : y.norm = r.d.norm) (ho : D.ok 3 y = true) (hr : r.ok) : ∃ q : Ru, RuIs y q ∧ (q.ts = r.ts ∧ q.ps = r.ps) ∧ q.ok := by
  have e : r.d.norm = .tup [.tup (r.ts.map Ly.d), .tup (r.ps.map Ly.d), r.mv.norm] := by
    show D.tup [(D.lst (r.ts.map Ly.d)).norm, (D.lst (r.ps.map Ly.d)).norm, r.mv.norm] = _
    rw [D.norm, D.norm, normAll_map, normAll_map, lys_norm, lys_norm]
  rw [e] at hn
  obtain ⟨ys, h3, hys⟩ := norm_tup hn
  have hl : ys.length = 3 := by simpa using congrArg List.length hys
  obtain ⟨y1, y2, y3, rfl⟩ : ∃ a b c, ys = [a, b, c] := by
    rcases ys with _ | ⟨a, _ | ⟨b, _ | ⟨c, _ | ⟨d, t⟩⟩⟩⟩
    all_goals first | exact ⟨_, _, _, rfl⟩ | (simp at hl; done)
  simp only [List.map_cons, List.map_nil, List.cons.injEq, and_true] at hys
  have p := (Is3.parts (n := 2) h3).2.2.1
  rw [p] at ho
  exact ⟨⟨r.ts, r.ps, y3⟩, ⟨y1, y2, h3, hys.1, hys.2.1⟩, ⟨rfl, rfl⟩, hr.1, hr.2.1, okAll_at ho y3 (by simp)⟩
theorem loose_rus : ∀ {ys : List D} {rs : List Ru}, ys.map D.norm = (rs.map Ru.d).map D.norm → D.okAll 3 ys = true → (∀ r ∈ rs, r.ok) → ∃ qs : List Ru, RusIs ys qs ∧ SameR qs rs ∧ ∀ q ∈ qs, q.ok
  | [], [], _, _, _ => ⟨[], trivial, trivial, nofun⟩
  | y :: ys, r :: rs, h, ho, hr => by
    simp only [List.map_cons, List.cons.injEq] at h
    obtain ⟨q, q1, q2, q3⟩ := loose_ru h.1 (okAll_at ho y (by simp)) (hr r (by simp))
    obtain ⟨qs, p1, p2, p3⟩ := loose_rus h.2 (okAll_of fun d m => okAll_at ho d (List.mem_cons_of_mem _ m)) fun k m => hr k (List.mem_cons_of_mem _ m)
    exact ⟨q :: qs, ⟨q1, p1⟩, ⟨q2, p2⟩, fun k m => (List.mem_cons.mp m).elim (fun e => e ▸ q3) (p3 k)⟩
  | [], _ :: _, h, _, _ => by simp at h
  | _ :: _, [], h, _, _ => by simp at h
mutual
theorem sz_bulk : ∀ d : D, d.sz ≤ 1 + d.py.bulk
  | .tup ds => by
    have := sz_bulkA ds
    show 1 + D.szAll ds ≤ 1 + PyData.bulkAll (D.pyAll ds)
    omega
  | .lst ds => by
    have := sz_bulkA ds
    show 1 + D.szAll ds ≤ 1 + PyData.bulkAll (D.pyAll ds)
    omega
  | .rd ds => by
    have := sz_bulkA ds
    show 1 + D.szAll ds ≤ 1 + PyData.bulkAll (D.pyAll ds)
    omega
  | .non => by rw [D.sz]; omega
  | .bl _ => by rw [D.sz]; omega
  | .int _ => by rw [D.sz]; omega
  | .str _ => by rw [D.sz]; omega
  | .ty _ => by rw [D.sz]; omega
  | .own _ => by rw [D.sz]; omega
theorem sz_bulkA : ∀ ds : List D, D.szAll ds ≤ PyData.bulkAll (D.pyAll ds)
  | [] => Nat.zero_le _
  | d :: ds => by
    have h1 := sz_bulk d
    have h2 := sz_bulkA ds
    rw [D.szAll, D.pyAll, PyData.bulkAll]
    omega
end
theorem sz_rus {rs : List Ru} (h : ∀ r ∈ rs, Fine r) (hl : rs.length ≤ 12) : D.szAll (rs.map Ru.d) ≤ 7212 := by
  have h1 := sz_bulkA (rs.map Ru.d)
  have h2 := (small_rus rs h).2.1
  omega
theorem ly_nk (l : Ly) : D.nkOk 7 l.d = true := by cases l <;> rfl
theorem lys_nk : ∀ ls : List Ly, D.nkOkAll 7 (ls.map Ly.d) = true
  | [] => rfl
  | l :: ls => by
    rw [List.map_cons, D.nkOkAll, ly_nk l, lys_nk ls]
    rfl
theorem keyB_tupL (ks : List Ly) : keyB (tupL ks) = true := by
  unfold keyB tupL
  show (D.nkOkAll 7 (ks.map Ly.d) && true) = true
  rw [lys_nk ks]
  rfl
def tru (ks : List D) : List (D × D) := ks.map fun k => (k, D.bl true)
theorem tru_keys (ks : List D) : (tru ks).map (·.1) = ks := by simp [tru, Function.comp_def]
theorem hasN_eqv {ks : List D} {d : D} (h : ∀ k ∈ ks, keyB k = true) (hd : keyB d = true) : hasN (tru ks) d = (D.pyAll ks).any fun z => PyData.eqv z d.py := by
  induction ks with
  | nil => rfl
  | cons k ks ih =>
    have i := ih fun x m => h x (List.mem_cons_of_mem _ m)
    obtain ⟨_, _, g1, _⟩ := keyB_tup (h k (by simp))
    obtain ⟨_, _, g2, _⟩ := keyB_tup hd
    have e := nkP_eqv 8 _ _ (nkOk_py 8 _ g1) (nkOk_py 8 _ g2)
    unfold hasN at i
    unfold hasN
    rw [show tru (k :: ks) = (k, D.bl true) :: tru ks from rfl, List.any_cons, i, D.pyAll, List.any_cons, e, nk_py, nk_py]
theorem stN_once {ks : List D} {d : D} (h : ∀ k ∈ ks, keyB k = true) (hd : keyB d = true) : DL.stN (tru ks) d (.bl true) = tru (onceD ks [d]) := by
  have e := hasN_eqv h hd
  unfold DL.stN
  rw [onceD, ← e]
  cases hasN (tru ks) d with
  | true =>
    rw [if_pos rfl, if_pos rfl, onceD]
    have : ∀ l : List D, ((tru l).map fun p => if p.1.nk = d.nk then (p.1, D.bl true) else p) = tru l := by
      intro l
      induction l with
      | nil => rfl
      | cons k l ih =>
        show (if k.nk = d.nk then (k, D.bl true) else (k, D.bl true)) :: ((tru l).map fun p => if p.1.nk = d.nk then (p.1, D.bl true) else p) = (k, D.bl true) :: tru l
        rw [ih]
        split <;> rfl
    exact this ks
  | false =>
    rw [if_neg (by decide), if_neg (by decide), onceD]
    simp [tru]
theorem once_tup {xs acc : List D} (h : ∀ d ∈ xs, ∃ ks, d = tupL ks) (h2 : ∀ d ∈ acc, ∃ ks, d = tupL ks) : ∀ d ∈ onceD acc xs, ∃ ks, d = tupL ks := fun d hd => (once_mem xs acc d hd).elim (h2 d) (h d)
theorem keysB_tru {ks : List D} (h : ∀ d ∈ ks, ∃ l, d = tupL l) : keysB (tru ks) = true := by
  unfold keysB tru
  rw [List.all_map, List.all_eq_true]
  intro d hd
  obtain ⟨l, rfl⟩ := h d hd
  exact keyB_tupL l
/-- the keys so far: of the rules ahead, and j of this one's -/
def keyPre (rs : List Ru) : List D := .tup [] :: (rs.map begs1).flatten
def begsTo (r : Ru) (j : Nat) : List D := (List.range j).map fun n => tupL (r.ts.take (n + 1))
theorem begsTo_succ (r : Ru) (j : Nat) : begsTo r (j + 1) = begsTo r j ++ [tupL (r.ts.take (j + 1))] := by
  unfold begsTo
  rw [List.range_succ, List.map_append]
  rfl
theorem begsTo_all (r : Ru) : begsTo r (r.ts.length - 1) = begs1 r := rfl
theorem keyPre_succ {rs : List Ru} {i : Nat} {r : Ru} (h : rs[i]? = some r) : keyPre (rs.take (i + 1)) = keyPre (rs.take i) ++ begs1 r := by
  unfold keyPre
  rw [List.take_succ, h]
  simp
theorem keyPre_tup (rs : List Ru) : ∀ d ∈ keyPre rs, ∃ ks, d = tupL ks := by
  intro d hd
  rcases List.mem_cons.mp hd with rfl | hd
  · exact ⟨[], rfl⟩
  · obtain ⟨l, hl, hd⟩ := List.mem_flatten.mp hd
    obtain ⟨r, _, rfl⟩ := List.mem_map.mp hl
    obtain ⟨n, _, rfl⟩ := List.mem_map.mp hd
    exact ⟨_, rfl⟩
theorem begsTo_tup (r : Ru) (j : Nat) : ∀ d ∈ begsTo r j, ∃ ks, d = tupL ks := by
  intro d hd
  obtain ⟨n, _, rfl⟩ := List.mem_map.mp hd
  exact ⟨_, rfl⟩
theorem keyPre_len {rs : List Ru} (h : ∀ r ∈ rs, r.ts.length ≤ 6) : (keyPre rs).length ≤ 1 + 6 * rs.length := by
  have : ((rs.map begs1).flatten).length ≤ 6 * rs.length := by
    induction rs with
    | nil => exact Nat.le_refl _
    | cons r rs ih =>
      have h1 := h r (by simp)
      have h2 := ih fun q m => h q (List.mem_cons_of_mem _ m)
      have h3 : (begs1 r).length ≤ 6 := by
        unfold begs1
        rw [List.length_map, List.length_range]
        omega
      rw [List.map_cons, List.flatten_cons, List.length_append, List.length_cons]
      omega
  unfold keyPre
  rw [List.length_cons]
  omega
theorem c_controls_of {W : World0} (T : Text W) : CtlOf W := by
  refine cal_t T.d_controls_of ⟨rfl, rfl, rfl, by decide +kernel, rfl, by decide +kernel, by decide +kernel⟩ rfl (fun _ _ _ _ _ _ us hl => match us, hl with | [_], _ => rfl) (N := ["rules", "found", "takes", "_", "length"]) ?_
  rintro ds R hl ⟨rs, rfl, hok, hz⟩ hR hd f cd Ar outer s H E Fm
  have rl : R.length < (R ++ [Res.dic (.n W.P W.w [])]).length := by simp
  walk_at "d"
  refine de_dictN Fm ?_
  walk_at "d"
  refine ⟨snd_at, by decide +kernel, ?_⟩
  rw [snd_set]
  walk_at "d"
  refine ds_for Fm.toFam ?_
  refine di_list Fm.toFam ?_
  walk_at "d"
  refine ⟨_, .lst, ?_⟩
  refine ⟨fun i ρ' R' => ∃ (a b c : Option D), R' = R ++ [.dic (.n W.P W.w (tru (onceD [] (keyPre (rs.take i)))))] ∧ i ≤ rs.length ∧ ρ' = [some (.lst (rs.map Ru.d)), some (.own R.length), a, b, c],
    ⟨none, none, none, rfl, Nat.zero_le _, rfl⟩, fun _ _ _ _ => .lst, ?_, ?_⟩
  · rintro i y ρ' R' hy ⟨a, b, c, rfl, hi, rfl⟩
    rw [List.getElem?_map] at hy
    obtain ⟨r, h1, rfl⟩ := Option.map_eq_some_iff.mp hy
    have hro := hok r (List.mem_of_getElem? h1)
    have hil := (List.getElem?_eq_some_iff.mp h1).1
    refine dg_tup Fm.toFam (.inl rfl) rfl ?_
    walk_at "d"
    refine ds_for Fm.toFam ?_
    refine di_range2 Fm.toFam (fun _ => rfl) T.bl.range ?_
    walk_at "d"
    refine ⟨1, r.ts.length, by simp, by omega, ?_⟩
    have hup : ((r.ts.length : Int) - 1).toNat = r.ts.length - 1 := by omega
    rw [hup]
    refine ⟨fun j ρ' R' => ∃ c : Option D, R' = R ++ [.dic (.n W.P W.w (tru (onceD [] (keyPre (rs.take i) ++ begsTo r j))))] ∧ j ≤ r.ts.length - 1 ∧ ρ' = [some (.lst (rs.map Ru.d)), some (.own R.length), some (.lst (r.ts.map Ly.d)), some r.mv, c],
      ⟨_, by rw [show begsTo r 0 = [] from rfl, List.append_nil], Nat.zero_le _, rfl⟩, fun _ _ _ _ => trivial, ?_, ?_⟩
    · rintro j y ρ' R' hy ⟨c, rfl, hj, rfl⟩
      obtain ⟨hj2, rfl⟩ := upTo_at hy
      have htup : ∀ d ∈ keyPre (rs.take i) ++ begsTo r j, ∃ ks, d = tupL ks := fun d hd => (List.mem_append.mp hd).elim (keyPre_tup _ d) (begsTo_tup r j d)
      have htup2 := once_tup htup (acc := []) nofun
      have hlen : (onceD [] (keyPre (rs.take i) ++ begsTo r j)).length ≤ 1000 := by
        have q1 := once_len (keyPre (rs.take i) ++ begsTo r j) []
        have q2 := keyPre_len (rs := rs.take i) fun q m => (hok q (List.mem_of_mem_take m)).2.1
        have q3 : (rs.take i).length ≤ 12 := by rw [List.length_take]; omega
        have q4 : (begsTo r j).length = j := by unfold begsTo; simp
        rw [List.length_append] at q1
        simp only [List.length_nil] at q1
        omega
      walk_at "x1"
      repeat (first | walk_at "sx" | walk_at "x1")
      refine ds_dputN Fm ?_
      walk_at "d"
      refine ⟨_, .lst, _, .lst, ?_⟩
      have key : DL.cutD (r.ts.map Ly.d) none (some (1 + (j : Int))) = (r.ts.take (j + 1)).map Ly.d := by
        rw [show (1 + (j : Int)) = ((j + 1 : Nat) : Int) by omega, cut_take, List.map_take]
      rw [key]
      refine ⟨R.length, _, rfl, snd_at, keysB_tru htup2, keyB_tupL _, by rw [sizeLine_eq]; simp [tru]; omega, ?_⟩
      rw [snd_set, show D.tup ((r.ts.take (j + 1)).map Ly.d) = tupL (r.ts.take (j + 1)) from rfl, stN_once (fun k hk => by obtain ⟨l, rfl⟩ := htup2 k hk; exact keyB_tupL l) (keyB_tupL _), ← once_app, List.append_assoc, ← begsTo_succ]
      exact ⟨_, rfl, by omega, rfl⟩
    · rintro ρ' R' ⟨c, rfl, hj, rfl⟩
      rw [upTo_len, begsTo_all, ← keyPre_succ h1]
      exact ⟨_, _, _, rfl, hil, rfl⟩
  · rintro ρ' R' ⟨a, b, c, rfl, hi, rfl⟩
    rw [List.length_map, List.take_length]
    have htup2 := once_tup (keyPre_tup rs) (acc := []) nofun
    refine dss_one ?_
    refine ds_ret ?_
    refine e_sortedN T.bl Fm (fun _ => rfl) ?_
    walk_at "d"
    refine ⟨R.length, _, rfl, snd_at, keysB_tru htup2, by rw [tru_keys]; exact sb_tupLs htup2, ?_⟩
    rw [tru_keys]
    have e : sortD (onceD [] (keyPre rs)) = ctlL rs := by unfold ctlL; rw [ctl_keys]; rfl
    rw [e]
    refine .one R [_, .lst (ctlL rs)] 1 _ (by rw [List.append_assoc]; rfl) rfl hR rfl (ctlL_lt _ rs) (by simp) ?_
    intro rs' e1
    simp only [List.cons.injEq, D.lst.injEq, and_true] at e1
    have := (rus_is rs').uniq (e1 ▸ rus_is rs)
    subst this
    exact ⟨rfl, rfl⟩
def SameL (n : Nat) : PreD := fun ds R => ∃ xs ys : List D, ds = [.lst xs, .lst ys] ∧ xs.length = ys.length ∧ xs.length < 1000000 ∧ ∀ (i : Nat) (a b : D), xs[i]? = some a → ys[i]? = some b → SameA n [a, b] R
theorem c_sameL {W : World0} (T : Text W) (n : Nat) : Cal W (2 + n) "_law_same" 2 (SameL n) SameB ["found", "due"] := by
  rw [show 2 + n = (1 + n) + 1 by omega]
  refine cal_t T.d_law_same sc_same rfl (fun _ _ _ _ _ _ us hl => match us, hl with | [_, _], _ => rfl) ?_
  rintro ds R hl ⟨xs, ys, rfl, hlen, hz, hs⟩ hR hd f cd Ar outer s H E Fm
  have v1 : Live R (.lst xs) := (live3 (.inr (.inl rfl))).1
  have v2 : Live R (.lst ys) := (live3 (.inr (.inl rfl))).1
  have hz1 := sizeLine_eq
  walk_at "d"
  refine ⟨v2, ?_⟩
  rw [show (D.lst ys).row = true from rfl]
  walk_at "d"
  refine ⟨v1, true, rfl, ?_⟩
  walk_at "d"
  refine ⟨v2, true, rfl, ?_⟩
  refine ⟨0, 0, rfl, rfl, by decide, ?_⟩
  walk_at "d"
  refine ⟨v1, false, rfl, ?_⟩
  walk_at "d"
  refine ⟨v2, false, rfl, ?_⟩
  refine ⟨0, 0, rfl, rfl, by decide, ?_⟩
  walk_at "d"
  try refine ⟨xs.length, rfl, ?_⟩
  walk_at "d"
  try refine ⟨ys.length, rfl, ?_⟩
  try walk_at "d"
  try refine ⟨0, 0, rfl, rfl, by decide, ?_⟩
  refine ⟨true, by show D.bl (((xs.length : Nat) : Int) == ((ys.length : Nat) : Int)) = _; rw [hlen]; simp, ?_⟩
  walk_at "d"
  refine de_lc (own := [("mine", 2), ("theirs", 3)]) Fm (fun _ => blk_by (by kernel_rfl)) ?_
  refine di_zip Fm.toFam (fun _ => rfl) T.bl.zip ?_
  walk_at "d"
  refine ⟨_, _, xs, ys, rfl, .lst, .lst, ?_⟩
  refine ⟨fun i bs R' => i ≤ xs.length ∧ R' = R ∧ bs = List.replicate i (.bl true), ⟨Nat.zero_le _, rfl, rfl⟩, ?_, ?_, ?_⟩
  · rintro i bs R' ⟨hi, rfl, rfl⟩
    exact ⟨⟨.lst, .lst⟩, by simp; omega⟩
  · rintro i d bs R' hd2 ⟨hi, rfl, rfl⟩
    obtain ⟨a, b, ha, hb, rfl⟩ := zipD_at hd2
    have hil : i < xs.length := (List.getElem?_eq_some_iff.mp ha).1
    refine dgw_tup (by walk_at "fm") (.inl rfl) rfl ?_
    walk_at "d"
    refine de_call (c_same T n) (by walk_at "fw") (Nat.le_refl _) (fun _ => rfl) ?_
    walk_at "d"
    refine ⟨rfl, hs i a b ha hb, ?_⟩
    rintro d R3 ⟨rfl, rfl⟩
    exact ⟨hil, rfl, by rw [List.replicate_succ']⟩
  · rintro bs R' ⟨_, rfl, rfl⟩
    refine ⟨List.replicate (zipD xs ys).length true, .inl (by rw [List.map_replicate]), ?_⟩
    exact .same rfl hR rfl ⟨rfl, by simp⟩
/-! what after tells, and how it is seen later -/
def Told (n : Nat) (d due : D) (X : Rs) : Prop := (d = .non ∧ X = [] ∧ due = .non) ∨ ∃ fl : List Ly, d = .own n ∧ X = [.lst (fl.map Ly.d)] ∧ due = .lst (fl.map Ly.d) ∧ (∀ l ∈ fl, l.ok = true) ∧ fl.length ≤ 20
def SeesAs (R : Rs) (d due : D) : Prop := OwnOk R d ∧ d.see R = due
theorem told_of {R R' : Rs} {d : D} {r : Ru} {ks : List Ly} (hr : Fine r) (hk : ∀ l ∈ ks, l.ok = true) (hz : ks.length ≤ 10)
    (h : if ks.take r.ts.length = r.ts then d = .own R.length ∧ R' = R ++ [.lst ((r.ps ++ ks.drop r.ts.length).map Ly.d)] else d = .non ∧ R' = R) : ∃ X, R' = R ++ X ∧ Told R.length d (afterD r ks) X := by
  by_cases q : ks.take r.ts.length = r.ts
  · rw [if_pos q] at h
    refine ⟨_, h.2, .inr ⟨_, h.1, rfl, by unfold afterD; rw [if_pos q], fun l m => ?_, ?_⟩⟩
    · rcases List.mem_append.mp m with m | m
      · exact hr.ps l m
      · exact hk l (List.mem_of_mem_drop m)
    · have := hr.pl
      rw [List.length_append, List.length_drop]
      omega
  · rw [if_neg q] at h
    exact ⟨[], by rw [h.2, List.append_nil], .inl ⟨h.1, rfl, by unfold afterD; rw [if_neg q]⟩⟩
theorem St.mores {R : Rs} {c : Nat} {S : Rs} (h : DL.St R c S) (X : Rs) : DL.St (R ++ X) c (S ++ X) := by
  obtain ⟨ns, a, e, rfl, q⟩ := h
  exact ⟨ns, a, e, by rw [List.append_assoc], q⟩
theorem told_sees {n c : Nat} {d due : D} {X A Y R : Rs} (h : Told n d due X) (hS : DL.St R c (A ++ (X ++ Y))) (hn : n = A.length + 2) : SeesAs R d due := by
  rcases h with ⟨rfl, rfl, rfl⟩ | ⟨fl, rfl, rfl, rfl, _⟩
  · exact ⟨fun k e => (by cases e), rfl⟩
  · have e : R[n]? = some (.lst (fl.map Ly.d)) := by
      rw [hn]
      exact hS.at 0
    exact ⟨fun k q => by cases q; exact ⟨_, e⟩, by simp only [D.see, e]⟩
theorem told_ok {n : Nat} {d due : D} {X : Rs} (h : Told n d due X) : D.ok 2 due = true ∧ due.sz ≤ 101 ∧ due.see [] = due ∧ ∀ R, due.see R = due ∧ OwnOk R due := by
  rcases h with ⟨rfl, rfl, rfl⟩ | ⟨fl, rfl, rfl, rfl, h1, h2⟩
  · exact ⟨rfl, by decide, rfl, fun R => ⟨rfl, fun k e => (by cases e)⟩⟩
  · refine ⟨lys_ok 1 (by decide) fl, ?_, rfl, fun R => ⟨rfl, fun k e => by cases e⟩⟩
    have := sz_lys fl
    show 1 + D.szAll (fl.map Ly.d) ≤ 101
    omega
theorem sees_same {n : Nat} {d due d' : D} {X R : Rs} (h : Told n d' due X) (h1 : SeesAs R d due) : SameA 2 [d, due] R := by
  obtain ⟨k1, k2, _, k3⟩ := told_ok h
  obtain ⟨e1, e2⟩ := k3 R
  refine ⟨d, due, rfl, h1.1, e2, by rw [h1.2]; exact k1, by rw [e1]; exact k1, by rw [h1.2, e1], by rw [h1.2]; omega, by rw [e1]; omega⟩
/-- behind spoiling -/
theorem told_spoilt {n c : Nat} {d due : D} {X A Y R R' : Rs} (h : Told n d due X) (hS : DL.St R c (A ++ (X ++ Y))) (hn : n = A.length + 2)
    (hB : ∀ x, [d] = [x] → ((∃ n, D.tt n x = true) → R' = R) ∧ (∀ k xs, x = .own k → R[k]? = some (.lst xs) → R' = R.set k (.lst (xs ++ [.str "late"])))) : ∃ X', DL.St R' c (A ++ (X' ++ Y)) := by
  rcases h with ⟨rfl, rfl, rfl⟩ | ⟨fl, rfl, rfl, rfl, _⟩
  · have e := (hB _ rfl).1 ⟨0, rfl⟩
    rw [e]
    exact ⟨[], hS⟩
  · have e : R[n]? = some (.lst (fl.map Ly.d)) := by
      rw [hn]
      exact hS.at 0
    have e2 := (hB _ rfl).2 n _ rfl e
    rw [e2, hn]
    exact ⟨[_], hS.put 0 _⟩
theorem told_spA {n c : Nat} {d due : D} {X A Y R : Rs} (h : Told n d due X) (hS : DL.St R c (A ++ (X ++ Y))) (hn : n = A.length + 2) : SpA 2 [d] R := by
  rcases h with ⟨rfl, rfl, rfl⟩ | ⟨fl, rfl, rfl, rfl, h1, h2⟩
  · exact ⟨_, rfl, .inl rfl⟩
  · have e : R[n]? = some (.lst (fl.map Ly.d)) := by
      rw [hn]
      exact hS.at 0
    exact ⟨_, rfl, .inr ⟨1, n, _, rfl, rfl, e, lys_tt fl, by simp; omega⟩⟩
theorem see_at {R : Rs} {k : Nat} {ds : List D} (h : R[k]? = some (.lst ds)) : (D.own k).see R = .lst ds := by simp only [D.see, h]
def RightA : PreD := fun ds R => ∃ (c : Nat) (rs : List Ru) (h0 : List D) (S : Rs), ds = [.own 1, .lst (rs.map Ru.d), .own 2] ∧ St R c (.lst h0 :: S) ∧ (∀ r ∈ rs, Fine r) ∧ 0 < rs.length ∧ rs.length ≤ 12 ∧ c + 1000000 < 2 ^ 40
def RightB : PostD := fun ds R d R' => ∀ (c : Nat) (rs : List Ru) (h0 : List D) (S : Rs), ds = [.own 1, .lst (rs.map Ru.d), .own 2] → St R c (.lst h0 :: S) → d = .bl true ∧ ∃ c', c ≤ c' ∧ c' ≤ c + 1000000 ∧ St R' c' (.lst (rs.map Ru.d) :: S)
theorem c_right {W : World0} (T : Text W) : Cal W 20 "_law_right" 3 RightA RightB ["stream", "some", "held"] := by
  refine cal_t T.d_law_right ⟨rfl, rfl, rfl, by decide +kernel, rfl, by decide +kernel, by decide +kernel⟩ rfl (fun _ _ _ _ _ _ us hl => match us, hl with | [_, _, _], _ => rfl) (N := ["stream", "some", "held", "was", "due", "told", "k", "layers", "one", "rule", "found", "again"]) ?_
  rintro ds R hl ⟨c, rs, h0, S, rfl, hS, hf, hl0, hl12, hc⟩ hR hd f cd Ar outer s H E Fm
  have h2 : R[2]? = some (.lst h0) := hS.at (S := []) 0
  walk_at "d"
  refine e_clear Fm ?_
  walk_at "d"
  refine ⟨_, h0, rfl, h2, ?_⟩
  have hS1 : St (R.set 2 (.lst [])) c (.lst [] :: S) := hS.put (S := []) 0 (.lst [])
  walk_at "d"
  refine ⟨_, [], rfl, hS1.at (S := []) 0, ?_⟩
  walk_at "d"
  refine ⟨[], rs.map Ru.d, rfl, hS1.at (S := []) 0, by rw [sizeLine_eq]; simp; omega, ?_⟩
  have hS2 : St ((R.set 2 (.lst [])).set 2 (.lst (rs.map Ru.d))) c (.lst (rs.map Ru.d) :: S) := hS1.put (S := []) 0 (.lst (rs.map Ru.d))
  rw [List.nil_append]
  generalize (R.set 2 (.lst [])).set 2 (.lst (rs.map Ru.d)) = R2 at hS2 ⊢
  refine dss_cons ?_
  refine ds_par 3 4 Fm.toFam rfl rfl (by decide) (fun _ => rfl) (fun _ => rfl) (fun _ => rfl) ?_
  refine da_cons ?_
  refine e_repr T.bl Fm (fun _ => rfl) ?_
  walk_at "d"
  have hsee : (D.own 2).see R2 = .lst (rs.map Ru.d) := by
    have := hS2.at (S := []) 0
    simp only [List.length_nil, Nat.zero_add, Nat.add_zero, List.getElem?_cons_zero] at this
    rw [D.see, this]
  have hokr : D.okAll 3 (rs.map Ru.d) = true := okAll_of fun d hd => by
    obtain ⟨r, hr, rfl⟩ := List.mem_map.mp hd
    exact Ru.okd (hf r hr).ok
  obtain ⟨sh1, sh2, sh3⟩ := shown_rus rs hf hl12
  refine ⟨_, 4, hsee, hokr, by decide, ⟨_, .inl rfl⟩, sh2, sh3, sh1, ?_⟩
  refine da_cons ?_
  refine de_call (c_law_controls T) Fm (by decide) (fun _ => rfl) ?_
  walk_at "d"
  refine ⟨rfl, ⟨rs, rfl, hf, hl12⟩, ?_⟩
  rintro d R3 ⟨rfl, hB⟩
  cases hB rs rfl
  walk_at "d"
  refine ⟨_, _, rfl, ?_⟩
  walk_at "d"
  refine de_call (c_controls T (c_controls_of T)) Fm (by decide) (fun _ => rfl) ?_
  walk_at "d"
  have hts : TsShort rs := ⟨fun r hr => ⟨(hf r hr).ok, (hf r hr).tl, (hf r hr).pl⟩, hl12⟩
  have hq : Seq R3 (.own 2) (rs.map Ru.d) := .own (hS2.at (S := []) 0)
  refine ⟨rfl, ⟨_, _, rs, rfl, hq, rus_is rs, hts⟩, ?_⟩
  rintro d R4 hB2
  obtain ⟨rfl, rfl⟩ := hB2 _ _ rs rfl hq (rus_is rs)
  walk_at "d"
  obtain ⟨okc, szc⟩ := ctlL_ok hts
  have same : ∀ (R5 : Rs) (x y : D), x.see R5 = .lst (ctlL rs) → y.see R5 = .lst (ctlL rs) → OwnOk R5 x → OwnOk R5 y → SameA 11 [x, y] R5 := fun R5 x y e1 e2 o1 o2 =>
    ⟨x, y, rfl, o1, o2, by rw [e1]; exact okc, by rw [e2]; exact okc, by rw [e1, e2], by rw [e1]; show 1 + D.szAll (ctlL rs) < 1000000; omega, by rw [e2]; show 1 + D.szAll (ctlL rs) < 1000000; omega⟩
  refine de_call (c_same T 11) Fm (by decide) (fun _ => rfl) ?_
  walk_at "d"
  refine ⟨rfl, same _ _ _ ?_ rfl ?_ nofun, ?_⟩
  · exact see_at snd_at
  · intro k e
    cases e
    exact ⟨_, snd_at⟩
  rintro d R6 ⟨rfl, rfl⟩
  walk_at "d"
  refine de_call (c_same T 11) Fm (by decide) (fun _ => rfl) ?_
  refine da_cons ?_
  have kw : KwOk W "controls" false ["rules"] ["rules"] := by
    obtain ⟨f, fd, F, hm⟩ := T.d_controls
    exact kw_of F hm fun kV doc pm an cdv ct ws hl => match ws, hl with | [_], _ => rfl
  refine de_callK (c_controls T (c_controls_of T)) kw rfl Fm (by decide) (fun _ => rfl) ?_
  refine dk_cons ?_
  refine de_call (c_loose T 4) Fm (by decide) (fun _ => rfl) ?_
  walk_at "d"
  have hS3 : St (R3 ++ [.lst (ctlL rs)]) c (.lst (rs.map Ru.d) :: S ++ [.lst (ctlL rs)]) := hS2.more _
  have szr := sz_rus hf hl12
  have hszl : (D.lst (rs.map Ru.d)).sz ≤ 7213 := by show 1 + D.szAll (rs.map Ru.d) ≤ 7213; omega
  refine ⟨rfl, ⟨c, _, .lst (rs.map Ru.d), rfl, hS3, by omega, hokr, by omega⟩, ?_⟩
  rintro d R7 hB5
  obtain ⟨hS4, hn4, ho4⟩ := hB5 _ _ _ rfl hS3
  refine dk_nil ?_
  have loose : ∀ {d : D}, d.norm = (D.lst (rs.map Ru.d)).norm → (∀ m, D.ok m (.lst (rs.map Ru.d)) = true → D.ok m d = true) → ∃ (ys : List D) (qs : List Ru), Is3 d ys ∧ RusIs ys qs ∧ SameR qs rs ∧ TsShort qs := by
    intro d hn ho
    rw [show (D.lst (rs.map Ru.d)).norm = .tup ((rs.map Ru.d).map D.norm) from by rw [D.norm, normAll_map]] at hn
    obtain ⟨ys, h3, hys⟩ := norm_tup hn
    have o4 := ho 4 hokr
    rw [(Is3.parts (n := 3) h3).2.2.1] at o4
    obtain ⟨qs, q1, q2, q3⟩ := loose_rus hys o4 fun r hr => (hf r hr).ok
    refine ⟨ys, qs, h3, q1, q2, fun q hq => ⟨q3 q hq, ?_⟩, by rw [q2.len]; exact hl12⟩
    obtain ⟨i, hi, rfl⟩ := List.getElem_of_mem hq
    have hi2 : i < rs.length := by rw [← q2.len]; exact hi
    obtain ⟨q', e1, e2, e3⟩ := q2.get (List.getElem?_eq_getElem hi2)
    rw [List.getElem?_eq_getElem hi] at e1
    cases e1
    rw [e2, e3]
    exact ⟨(hf _ (List.getElem_mem hi2)).tl, (hf _ (List.getElem_mem hi2)).pl⟩
  obtain ⟨ys, qs, h3, q1, q2, q3⟩ := loose hn4 ho4
  refine ⟨rfl, ⟨d, ys, qs, rfl, seq3 h3, q1, q3⟩, ?_⟩
  rintro d8 R8 hB6
  obtain ⟨rfl, rfl⟩ := hB6 _ _ qs rfl (seq3 h3) q1
  rw [q2.ctl]
  walk_at "d"
  refine ⟨rfl, same _ _ _ (see_at snd_at) rfl (fun k e => by cases e; exact ⟨_, snd_at⟩) nofun, ?_⟩
  rintro d R9 ⟨rfl, rfl⟩
  walk_at "d"
  refine e_repr T.bl Fm (fun _ => rfl) ?_
  walk_at "d"
  have hS5 : St (R7 ++ [.lst (ctlL rs)]) (c + (D.lst (rs.map Ru.d)).dr) (.lst (rs.map Ru.d) :: S ++ [.lst (ctlL rs)] ++ [.lst (ctlL rs)]) := hS4.more _
  have see2 : ∀ {R' : Rs} {c' : Nat} {T' : Rs}, St R' c' (.lst (rs.map Ru.d) :: T') → R'[2]? = some (.lst (rs.map Ru.d)) := fun h => h.at (S := []) 0
  refine ⟨_, 4, see_at (see2 hS5), hokr, by decide, ⟨_, .inl rfl⟩, sh2, sh3, sh1, ?_⟩
  walk_at "d"
  refine ⟨0, 0, rfl, rfl, by decide, ?_⟩
  have est : ∀ {R' : Rs} {z : Str}, PyData.eqv ((D.str z).see R').py ((D.str z).see R').py = true := by
    intro R' z
    simp [D.see, D.py, PyData.eqv]
  rw [show (D.str (D.lst (rs.map Ru.d)).py.shown).see (R7 ++ [Res.lst (ctlL rs)]) = .str (D.lst (rs.map Ru.d)).py.shown from rfl]
  rw [show PyData.eqv (D.str (D.lst (rs.map Ru.d)).py.shown).py (D.str (D.lst (rs.map Ru.d)).py.shown).py = true from est (R' := [])]
  walk_at "d"
  have hl3 : R3.length = (Res.lst (rs.map Ru.d) :: S).length + 2 + 0 := hS2.len
  have hS5' : St (R7 ++ [.lst (ctlL rs)]) (c + (D.lst (rs.map Ru.d)).dr) ((.lst (rs.map Ru.d) :: S) ++ [.lst (ctlL rs), .lst (ctlL rs)]) := by
    have := hS5
    rwa [List.append_assoc] at this
  have hat : (R7 ++ [Res.lst (ctlL rs)])[R3.length]? = some (.lst (ctlL rs)) := by
    rw [hl3]
    exact hS5'.at 0
  refine ⟨_, ctlL rs, rfl, hat, ?_⟩
  walk_at "d"
  have zc : (ctlL rs).length ≤ D.szAll (ctlL rs) := szAll_len _
  refine ⟨ctlL rs, hat, by rw [sizeLine_eq]; omega, ?_⟩
  have hS6 : St ((R7 ++ [Res.lst (ctlL rs)]).set R3.length (Res.lst (ctlL rs ++ [.str "late"]))) (c + (D.lst (rs.map Ru.d)).dr) ((.lst (rs.map Ru.d) :: S) ++ [.lst (ctlL rs ++ [.str "late"]), .lst (ctlL rs)]) := by
    rw [hl3]
    exact hS5'.put 0 _
  generalize (R7 ++ [Res.lst (ctlL rs)]).set R3.length (Res.lst (ctlL rs ++ [.str "late"])) = R9 at hS6 ⊢
  walk_at "d"
  refine de_call (c_same T 11) Fm (by decide) (fun _ => rfl) ?_
  refine da_cons ?_
  refine de_call (c_controls T (c_controls_of T)) Fm (by decide) (fun _ => rfl) ?_
  walk_at "d"
  have hq9 : Seq R9 (.own 2) (rs.map Ru.d) := .own (see2 hS6)
  refine ⟨rfl, ⟨_, _, rs, rfl, hq9, rus_is rs, hts⟩, ?_⟩
  rintro d R10 hB7
  obtain ⟨rfl, rfl⟩ := hB7 _ _ rs rfl hq9 (rus_is rs)
  walk_at "d"
  refine ⟨rfl, same _ _ _ (see_at snd_at) rfl (fun k e => by cases e; exact ⟨_, snd_at⟩) nofun, ?_⟩
  rintro d R11 ⟨rfl, rfl⟩
  walk_at "d"
  have hS7 := hS6.more (.lst (ctlL rs))
  have hdr : (D.lst (rs.map Ru.d)).dr ≤ 7213 := Nat.le_trans (D.dr_le _) hszl
  generalize hc1 : c + (D.lst (rs.map Ru.d)).dr = c1 at *
  generalize R9 ++ [Res.lst (ctlL rs)] = R12 at hS7 ⊢
  rw [List.cons_append, List.cons_append] at hS7
  generalize hT0 : S ++ [Res.lst (ctlL rs ++ [D.str "late"]), Res.lst (ctlL rs)] ++ [Res.lst (ctlL rs)] = T0 at hS7
  have hwas : (D.lst (rs.map Ru.d)).py.shown = (D.lst (rs.map Ru.d)).py.shown := rfl
  refine ds_for Fm.toFam ?_
  refine di_range1 Fm.toFam (fun _ => rfl) T.bl.range ?_
  walk_at "d"
  refine ⟨by decide, ?_⟩
  refine ⟨fun i ρ' R' => ∃ (c2 : Nat) (T2 : Rs) (a b e g h p q u : Option D), St R' c2 (.lst (rs.map Ru.d) :: (S ++ T2)) ∧ c1 ≤ c2 ∧ c2 ≤ c1 + i * 1000 ∧ i ≤ 6 ∧ ρ' = [some (.own 1), some (.lst (rs.map Ru.d)), some (.own 2), some (.str (D.lst (rs.map Ru.d)).py.shown), a, b, e, g, h, p, q, u],
    ⟨c1, _, _, _, _, _, _, _, _, _, by rw [← List.append_assoc, hT0]; exact hS7, Nat.le_refl _, by omega, by omega, rfl⟩, fun _ _ _ _ => trivial, ?_, ?_⟩
  · rintro i y ρ' R' hy ⟨c2, T2, a, b, e, g, h, p, q, u, hSi, hc2, hc3, hi6, rfl⟩
    obtain ⟨hi, rfl⟩ := upTo_at hy
    have hi7 : i < 6 := hi
    walk_at "x1"
    refine dss_cons ?_
    refine ds_setLc 7 Fm (by decide +kernel) (fun _ => rfl) (fun _ => rfl) (own := [("one", 8)]) (fun _ => blk_by (by kernel_rfl)) ?_
    refine di_range1 Fm.toFam (fun _ => rfl) T.bl.range ?_
    refine de_call (c_draw T) Fm (by decide) (fun _ => rfl) ?_
    walk_at "d"
    refine ⟨rfl, ⟨c2, _, 5, rfl, hSi, by omega, by decide, by decide⟩, ?_⟩
    rintro d R13 hB
    obtain ⟨hSd, n, rfl, hn0, hn5⟩ := hB c2 _ 5 rfl hSi
    refine ⟨n, rfl, by omega, ?_⟩
    refine ⟨fun j ys R' => ∃ (c3 : Nat) (ls : List Ly), St R' c3 (.lst (rs.map Ru.d) :: (S ++ T2)) ∧ c2 ≤ c3 ∧ c3 ≤ c2 + 1 + j * 10 ∧ ys = ls.map Ly.d ∧ ls.length = j ∧ j ≤ n.toNat ∧ ∀ l ∈ ls, l.ok = true,
      ⟨c2 + 1, [], hSd, by omega, by omega, rfl, rfl, Nat.zero_le _, nofun⟩, ?_, ?_, ?_⟩
    · rintro j ys R' ⟨c3, ls, _, _, _, rfl, hj, hjn, _⟩
      exact ⟨trivial, by rw [sizeLine_eq]; simp; omega⟩
    · rintro j y ys R' hy ⟨c3, ls, hS8, hc4, hc5, rfl, hj, hjn, hlo⟩
      obtain ⟨hj2, rfl⟩ := upTo_at hy
      walk_at "d"
      refine de_call (c_pick T) (by walk_at "fw") (by decide) (fun _ => rfl) ?_
      walk_at "d"
      refine e_addL ?_
      refine de_call (c_layers_in T) (by walk_at "fw") (by decide) (fun _ => rfl) ?_
      walk_at "d"
      refine ⟨rfl, ⟨rs, rfl, hf, hl12⟩, ?_⟩
      rintro d R14 ⟨rfl, bs, rfl, hbo, hbl⟩
      refine de_lst ?_
      walk_at "d"
      have hw9 : D.tup [.str "word", .int 9] = (Ly.word 9).d := rfl
      rw [hw9]
      refine ⟨by rw [sizeLine_eq]; simp; omega, ?_⟩
      have hbs : bs.map Ly.d ++ [(Ly.word 9).d] = (bs ++ [Ly.word 9]).map Ly.d := by simp
      rw [hbs]
      walk_at "d"
      refine ⟨rfl, ⟨c3, _, _, _, rfl, hS8, by omega, .inr (.inl rfl), by simp, by simp; omega⟩, ?_⟩
      rintro d R15 hB
      obtain ⟨hS9, hm⟩ := hB c3 _ _ _ rfl hS8 (.inr (.inl rfl))
      obtain ⟨l, hl9, rfl⟩ := List.mem_map.mp hm
      have hlo9 : l.ok = true := by
        rcases List.mem_append.mp hl9 with m | m
        · exact hbo l m
        · rw [List.mem_singleton.mp m]; rfl
      refine ⟨c3 + 1, ls ++ [l], hS9, by omega, by omega, by simp, by simp; omega, by omega, fun k m => (List.mem_append.mp m).elim (hlo k) fun m => by rw [List.mem_singleton.mp m]; exact hlo9⟩
    · rintro ys R' ⟨c3, ls, hS8, hc4, hc5, rfl, hj, hjn, hlo⟩
      rw [upTo_len] at hc5 hj
      have hls5 : ls.length ≤ 4 := by omega
      have hlok : LysOk ls := ⟨hlo, by omega⟩
      walk_at "d"
      refine de_call (c_draw T) Fm (by decide) (fun _ => rfl) ?_
      walk_at "d"
      refine ⟨rfl, ⟨c3, _, _, rfl, hS8, by omega, by simp; omega, by simp; omega⟩, ?_⟩
      rintro d R16 hB
      obtain ⟨hS10, rn, rfl, hr0, hr1⟩ := hB c3 _ _ rfl hS8
      rw [List.length_map] at hr1
      have hrl : rn.toNat < rs.length := by omega
      obtain ⟨r, hrr⟩ : ∃ r, rs[rn.toNat]? = some r := ⟨_, List.getElem?_eq_getElem hrl⟩
      have hrf := hf r (List.mem_of_getElem? hrr)
      have hrn : rn = ((rn.toNat : Nat) : Int) := by omega
      generalize rn.toNat = rk at hrl hrr hrn
      subst hrn
      walk_at "d"
      refine de_call (c_draw T) Fm (by decide) (fun _ => rfl) ?_
      walk_at "d"
      refine ⟨rfl, ⟨c3 + 1, _, 2, rfl, hS10, by omega, by decide, by decide⟩, ?_⟩
      rintro d R17 hB
      obtain ⟨hS11, qn, rfl, hq0, hq2⟩ := hB _ _ 2 rfl hS10
      walk_at "d"
      refine ⟨0, 0, rfl, rfl, by decide, ?_⟩
      refine ite_both (fun d R2 => R2 = R17 ∧ ∃ ks : List Ly, d = .lst (ks.map Ly.d) ∧ (∀ l ∈ ks, l.ok = true) ∧ ks.length ≤ 10) (fun d R2 ⟨eR, ks, ed, hko, hkl⟩ => ?_) ?_
      rotate_left
      · refine ⟨fun _ => ?_, fun _ => ?_⟩
        · refine e_addL ?_
          refine e_list T.bl Fm.toFam (fun _ => rfl) ?_
          walk_at "d"
          have hat := atI_nat (xs := rs.map Ru.d) (j := rk) (v := r.d) (by rw [List.getElem?_map, hrr]; rfl)
          refine ⟨_, _, _, .lst, rfl, hat, ?_⟩
          walk_at "d"
          refine ⟨_, 0, _, .tup, rfl, rfl, ?_⟩
          refine ⟨_, .lst, ?_⟩
          walk_at "d"
          refine ⟨by rw [sizeLine_eq]; simp; have := hrf.tl; omega, ?_⟩
          first
            | exact ⟨rfl, r.ts ++ ls, by rw [List.map_append], fun l m => (List.mem_append.mp m).elim (hrf.ts l) (hlo l), by simp; have := hrf.tl; omega⟩
            | exact ⟨r.ts ++ ls, by rw [List.map_append], fun l m => (List.mem_append.mp m).elim (hrf.ts l) (hlo l), by simp; have := hrf.tl; omega⟩
        · walk_at "d"
          first
            | exact ⟨rfl, ls, rfl, hlo, by omega⟩
            | exact ⟨ls, rfl, hlo, by omega⟩
      subst eR ed
      have hkok : LysOk ks := ⟨hko, by omega⟩
      walk_at "d"
      refine de_call (c_law_after T) Fm (by decide) (fun _ => rfl) ?_
      walk_at "d"
      have hat := atI_nat (xs := rs.map Ru.d) (j := rk) (v := r.d) (by rw [List.getElem?_map, hrr]; rfl)
      refine ⟨_, _, _, .lst, rfl, hat, ?_⟩
      walk_at "d"
      refine ⟨rfl, ⟨r, ks, rfl, hrf.ok, hkok⟩, ?_⟩
      rintro d R18 ⟨rfl, hBa⟩
      cases hBa r ks rfl
      walk_at "d"
      have kwa : KwOk W "after" true ["rule", "layers", "rules"] ["rules", "layers", "rule"] := by
        obtain ⟨f, fd, F, hm⟩ := T.d_after
        exact kw_of F hm fun kV doc pm an cdv ct ws hl => match ws, hl with | [_, _, _], _ => rfl
      have nks : (D.lst (ks.map Ly.d)).norm = .tup (ks.map Ly.d) := by rw [D.norm, normAll_map, lys_norm]
      have hq18 : Seq R18 (.own 2) (rs.map Ru.d) := .own (see2 hS11)
      refine ds_par 10 11 Fm.toFam rfl rfl (by decide) (fun _ => rfl) (fun _ => rfl) (fun _ => rfl) ?_
      refine da_cons ?_
      refine de_call (c_after T) Fm (by decide) (fun _ => rfl) ?_
      walk_at "d"
      refine ⟨rfl, ⟨_, _, rk, _, rs, ks, r, rfl, hq18, rus_is rs, hts.rus, nks, hkok, hrr⟩, ?_⟩
      rintro d19 R19 hBf
      have hBf2 := hBf _ _ rk _ rs ks r rfl hq18 (rus_is rs) nks hrr
      obtain ⟨X, rfl, tX⟩ := told_of hrf hko hkl hBf2
      have hS19 := St.mores hS11 X
      refine da_cons ?_
      refine de_callK (c_after T) kwa rfl Fm (by decide) (fun _ => rfl) ?_
      refine dk_cons ?_
      walk_at "d"
      refine dk_cons ?_
      refine de_call (c_loose T 4) Fm (by decide) (fun _ => rfl) ?_
      walk_at "d"
      have hksz : (D.lst (ks.map Ly.d)).sz ≤ 51 := by
        have := sz_lys ks
        show 1 + D.szAll (ks.map Ly.d) ≤ 51
        omega
      have hksd : (D.lst (ks.map Ly.d)).dr ≤ 51 := Nat.le_trans (D.dr_le _) hksz
      refine ⟨rfl, ⟨_, _, .lst (ks.map Ly.d), rfl, hS19, by omega, lys_ok 3 (by decide) ks, by omega⟩, ?_⟩
      rintro d20 R20 hBl
      obtain ⟨hS20, hn20, _⟩ := hBl _ _ _ rfl hS19
      refine dk_cons ?_
      walk_at "d"
      refine dk_nil ?_
      have hn20' : d20.norm = .tup (ks.map Ly.d) := by rw [hn20, nks]
      refine ⟨rfl, ⟨_, _, rk, _, rs, ks, r, rfl, .inl .lst, rus_is rs, hts.rus, hn20', hkok, hrr⟩, ?_⟩
      rintro d21 R21 hBg
      have hBg2 := hBg _ _ rk _ rs ks r rfl (.inl .lst) (rus_is rs) hn20' hrr
      obtain ⟨Y, rfl, tY⟩ := told_of hrf hko hkl hBg2
      have hS21 := St.mores hS20 Y
      have hA : R18.length = (Res.lst (rs.map Ru.d) :: (S ++ T2)).length + 2 := hS11.len
      have hA20 : R20.length = (Res.lst (rs.map Ru.d) :: (S ++ T2) ++ X).length + 2 := hS20.len
      walk_at "d"
      refine ⟨d19, d21, rfl, ?_⟩
      walk_at "d"
      refine de_call (c_sameL T 2) Fm (by decide) (fun _ => rfl) ?_
      refine da_cons ?_
      refine de_lst ?_
      walk_at "d"
      refine de_lst ?_
      walk_at "d"
      have hSX : DL.St (R20 ++ Y) (c3 + 1 + 1 + (D.lst (ks.map Ly.d)).dr) (Res.lst (rs.map Ru.d) :: (S ++ T2) ++ (X ++ Y)) := by
        rw [← List.append_assoc]
        exact hS21
      have hSY : DL.St (R20 ++ Y) (c3 + 1 + 1 + (D.lst (ks.map Ly.d)).dr) (Res.lst (rs.map Ru.d) :: (S ++ T2) ++ X ++ (Y ++ [])) := by
        rw [List.append_nil]
        exact hS21
      have sX := told_sees tX hSX hA
      have sY := told_sees tY hSY hA20
      refine ⟨rfl, ⟨_, _, rfl, rfl, by show 2 < 1000000; decide, fun i2 a2 b2 ha2 hb2 => ?_⟩, ?_⟩
      · match i2, ha2, hb2 with
        | 0, ha2, hb2 => cases ha2; cases hb2; exact sees_same tX sX
        | 1, ha2, hb2 => cases ha2; cases hb2; exact sees_same tY sY
        | i2 + 2, ha2, hb2 => simp at ha2
      rintro d22 R22 ⟨rfl, rfl⟩
      walk_at "d"
      refine de_call (c_spoilt T 2) Fm (by decide) (fun _ => rfl) ?_
      walk_at "d"
      refine ⟨rfl, told_spA tX hSX hA, ?_⟩
      rintro d23 R23 ⟨rfl, hBs⟩
      obtain ⟨X', hS23⟩ := told_spoilt tX hSX hA hBs
      walk_at "d"
      refine de_call (c_same T 2) Fm (by decide) (fun _ => rfl) ?_
      refine da_cons ?_
      refine de_call (c_after T) Fm (by decide) (fun _ => rfl) ?_
      walk_at "d"
      rw [List.cons_append] at hS23
      have hq23 : Seq R23 (.own 2) (rs.map Ru.d) := .own (see2 hS23)
      refine ⟨rfl, ⟨_, _, rk, _, rs, ks, r, rfl, hq23, rus_is rs, hts.rus, nks, hkok, hrr⟩, ?_⟩
      rintro d24 R24 hBh
      have hBh2 := hBh _ _ rk _ rs ks r rfl hq23 (rus_is rs) nks hrr
      obtain ⟨Z, rfl, tZ⟩ := told_of hrf hko hkl hBh2
      have hS24 := St.mores hS23 Z
      have hSZ : DL.St (R23 ++ Z) (c3 + 1 + 1 + (D.lst (ks.map Ly.d)).dr) (Res.lst (rs.map Ru.d) :: (S ++ T2 ++ (X' ++ Y)) ++ (Z ++ [])) := by
        rw [List.append_nil]
        exact hS24
      walk_at "d"
      refine ⟨rfl, sees_same tZ (told_sees tZ hSZ hS23.len), ?_⟩
      rintro d25 R25 ⟨rfl, rfl⟩
      walk_at "d"
      refine e_repr T.bl Fm (fun _ => rfl) ?_
      walk_at "d"
      rw [List.cons_append, List.append_assoc S, List.append_assoc S] at hS24
      refine ⟨_, 4, see_at (see2 hS24), hokr, by decide, ⟨_, .inl rfl⟩, sh2, sh3, sh1, ?_⟩
      walk_at "d"
      refine ⟨0, 0, rfl, rfl, by decide, ?_⟩
      rw [show (D.str (D.lst (rs.map Ru.d)).py.shown).see (R23 ++ Z) = .str (D.lst (rs.map Ru.d)).py.shown from rfl]
      rw [show PyData.eqv (D.str (D.lst (rs.map Ru.d)).py.shown).py (D.str (D.lst (rs.map Ru.d)).py.shown).py = true from est (R' := [])]
      walk_at "d"
      exact ⟨_, T2 ++ (X' ++ Y) ++ Z, _, _, _, _, _, _, _, _, hS24, by omega, by omega, by omega, rfl⟩
  · rintro ρ' R' ⟨c2, T2, a, b, e, g, h, p, q, u, hSi, hc2, hc3, hi6, rfl⟩
    rw [upTo_len] at hc3
    walk_at "d"
    have hSi2 := hSi
    obtain ⟨ns, sa, se, rfl, hns, hsa, hse0, hse1⟩ := hSi
    have hlR := hS.len
    rw [List.length_cons] at hlR
    have htl := hS.tail hR
    refine .cut (strm ns sa c2 se ++ (.lst (rs.map Ru.d) :: S)) T2 (by rw [List.append_assoc]; rfl) (by rw [List.length_append, List.length_cons]; show 2 + _ = _; omega) ?_ rfl ?_
    · refine strm_lt (by omega) ns sa _ se ?_
      intro x hx
      rcases List.mem_cons.mp hx with rfl | hx
      · refine lt_all fun d hd => ?_
        obtain ⟨r, hr, rfl⟩ := List.mem_map.mp hd
        exact (hf r hr).lt _
      · exact htl x (List.mem_cons_of_mem _ hx)
    · intro c' rs' h0' S' e1 e2
      simp only [List.cons.injEq, D.lst.injEq, and_true, true_and] at e1
      have e3 := (rus_is rs').uniq (e1 ▸ rus_is rs)
      subst e3
      obtain ⟨rfl, e4⟩ := hS.uniq e2
      injection e4 with e5 e6
      subst e6
      exact ⟨rfl, c2, by omega, by omega, ns, sa, se, rfl, hns, hsa, hse0, hse1⟩
theorem e_negI {I : Type} {F : I → Cx} {K : PySem.W.Frag} {ρ : DL.Env} {R : Rs} {Φ : Φ1} {a : Expr} {pos : Pos} (h : DE F K a ρ R fun x R1 => ∃ i : Int, x = .int i ∧ Φ (.int (-i)) R1) : DE F K (.UnaryOp .USub a pos) ρ R Φ :=
  de_un (fun _ => un_neg) (h.imp fun x R1 ⟨i, e, hp⟩ => by
    subst e
    intro H0 ι H Q vs s rs f
    cases rs with
    | cons rv rr =>
      cases rr
      cases rv
      exact ⟨_, rfl, _, rfl, f.now s hp (.int _)⟩)
def kD (kp : List (List Ru)) : List D := kp.map fun rs => .lst (rs.map Ru.d)
def LawA : PreD := fun ds R => ∃ ns : List Int, ds = [.rd (ns.map .int)] ∧ R = [] ∧ ns.length ≤ 63
theorem c_law {W : World0} (T : Text W) : Cal W 24 "law" 1 LawA (fun _ _ d _ => d = .bl true) ["script"] := by
  refine cal_t T.d_law ⟨rfl, rfl, rfl, by decide +kernel, rfl, by decide +kernel, by decide +kernel⟩ rfl (fun _ _ _ _ _ _ us hl => match us, hl with | [_], _ => rfl) (N := ["script", "stream", "held", "kept", "turn", "some"]) ?_
  rintro ds R hl ⟨ns, rfl, rfl, hns⟩ hR hd f cd Ar outer s H E Fm
  walk_at "d"
  refine de_call (c_stream T) Fm (by decide) (fun _ => rfl) ?_
  walk_at "d"
  refine ⟨rfl, ⟨ns, rfl, rfl, hns⟩, ?_⟩
  rintro d R1 ⟨rfl, hS⟩
  walk_at "d"
  refine ds_par 2 3 Fm.toFam rfl rfl (by decide) (fun _ => rfl) (fun _ => rfl) (fun _ => rfl) ?_
  refine da_cons ?_
  refine de_lstO ?_
  walk_at "d"
  refine de_lstO ?_
  walk_at "d"
  refine ⟨_, _, rfl, ?_⟩
  obtain ⟨ns', sa, se, rfl, hq⟩ := hS
  have hS0 : DL.St (strm ns' sa 0 se ++ [] ++ [Res.lst []] ++ [Res.lst []]) 0 [.lst [], .lst []] := ⟨ns', sa, se, rfl, hq⟩
  generalize hRR : strm ns' sa 0 se ++ [] ++ [Res.lst []] ++ [Res.lst []] = RR at hS0 ⊢
  refine dss_cons ?_
  refine ds_for Fm.toFam ?_
  refine di_range1 Fm.toFam (fun _ => rfl) T.bl.range ?_
  walk_at "d"
  refine ⟨by decide, ?_⟩
  refine ⟨fun i ρ' R' => ∃ (c : Nat) (h0 : List D) (kp : List (List Ru)) (a b : Option D), DL.St R' c [.lst h0, .lst (kD kp)] ∧ c ≤ i * 3000000 ∧ i ≤ 12 ∧ kp.length = i ∧ (∀ rs ∈ kp, (∀ r ∈ rs, Fine r) ∧ 0 < rs.length ∧ rs.length ≤ 12) ∧ ρ' = [some (.rd (ns.map .int)), some (.own 1), some (.own 2), some (.own 3), a, b],
    ⟨0, [], [], none, none, hS0, by omega, by omega, rfl, nofun, rfl⟩, fun _ _ _ _ => trivial, ?_, ?_⟩
  · rintro i y ρ' R' hy ⟨c, h0, kp, a, b, hSi, hc, hi, hkl, hkp, rfl⟩
    obtain ⟨hi2, rfl⟩ := upTo_at hy
    have hi3 : i < 12 := hi2
    have at3 : ∀ {R : Rs} {c : Nat} {p q : Res}, DL.St R c [p, q] → R[3]? = some q := fun h => by
      have := DL.St.at (S := [_]) (T := [_]) h 0
      exact this
    walk_at "d"
    refine ⟨3, _, rfl, at3 hSi, ?_⟩
    refine de_call (c_drawn_rules T) Fm (by decide) (fun _ => rfl) ?_
    walk_at "d"
    refine ⟨rfl, ⟨c, _, rfl, hSi, by omega⟩, ?_⟩
    rintro d R2 hB
    obtain ⟨c1, rs, hS1, hc1, hc2, rfl, hf, h0l, h12⟩ := hB c _ rfl hSi
    refine ⟨_, at3 hS1, by rw [sizeLine_eq]; unfold kD; simp; omega, ?_⟩
    have hS2 : DL.St (R2.set 3 (.lst (kD kp ++ [.lst (rs.map Ru.d)]))) c1 [.lst h0, .lst (kD (kp ++ [rs]))] := by
      have := DL.St.put (S := [_]) (T := [_]) hS1 0 (.lst (kD kp ++ [.lst (rs.map Ru.d)]))
      have e : kD (kp ++ [rs]) = kD kp ++ [.lst (rs.map Ru.d)] := by unfold kD; simp
      rw [e]
      exact this
    generalize R2.set 3 (.lst (kD kp ++ [.lst (rs.map Ru.d)])) = R3 at hS2 ⊢
    have hkp2 : ∀ qs ∈ kp ++ [rs], (∀ r ∈ qs, Fine r) ∧ 0 < qs.length ∧ qs.length ≤ 12 := fun qs m => (List.mem_append.mp m).elim (hkp qs) fun m => by rw [List.mem_singleton.mp m]; exact ⟨hf, h0l, h12⟩
    obtain ⟨q0, hq0⟩ : ∃ q0, (kp ++ [rs])[0]? = some q0 := ⟨_, List.getElem?_eq_getElem (by simp)⟩
    have key2 : ∀ (j : Nat) (y : D), [D.lst (rs.map Ru.d), D.lst (q0.map Ru.d)][j]? = some y → ∃ qs : List Ru, y = .lst (qs.map Ru.d) ∧ (∀ r ∈ qs, Fine r) ∧ 0 < qs.length ∧ qs.length ≤ 12 ∧ j < 2 := by
      intro j y hy
      match j, hy with
      | 0, hy => cases hy; exact ⟨rs, rfl, hf, h0l, h12, Nat.succ_pos _⟩
      | 1, hy => cases hy; obtain ⟨z1, z2, z3⟩ := hkp2 q0 (List.mem_of_getElem? hq0); exact ⟨q0, rfl, z1, z2, z3, Nat.lt_succ_self _⟩
      | j + 2, hy => simp at hy
    walk_at "d"
    refine ds_for Fm.toFam ?_
    refine di_tup Fm.toFam ?_
    walk_at "d"
    refine e_negI ?_
    walk_at "d"
    have ek : kD (kp ++ [rs]) = kD kp ++ [.lst (rs.map Ru.d)] := by unfold kD; simp
    refine ⟨kD (kp ++ [rs]), -1, .lst (rs.map Ru.d), .own (at3 hS2), rfl, by rw [ek]; exact atI_last _ _, ?_⟩
    walk_at "d"
    have e0 : (kD (kp ++ [rs]))[0]? = some (.lst (q0.map Ru.d)) := by unfold kD; rw [List.getElem?_map, hq0]; rfl
    refine ⟨kD (kp ++ [rs]), 0, .lst (q0.map Ru.d), .own (at3 hS2), rfl, atI_nat (j := 0) e0, ?_⟩
    walk_at "d"
    refine ⟨fun j ρ' R' => ∃ (c2 : Nat) (h1 : List D) (a b : Option D), DL.St R' c2 [.lst h1, .lst (kD (kp ++ [rs]))] ∧ c2 ≤ c1 + j * 1000000 ∧ j ≤ 2 ∧ ρ' = [some (.rd (ns.map .int)), some (.own 1), some (.own 2), some (.own 3), a, b],
      ⟨c1, h0, _, _, hS2, by omega, by omega, rfl⟩, fun _ _ _ _ => trivial, ?_, ?_⟩
    · rintro j y ρ' R' hy ⟨c2, h1, a, b, hS3, hc3, hj, rfl⟩
      obtain ⟨qs, rfl, z1, z2, z3, hj2⟩ := key2 j y hy
      walk_at "d"
      refine de_call (c_right T) Fm (by decide) (fun _ => rfl) ?_
      walk_at "d"
      refine ⟨rfl, ⟨c2, qs, h1, _, rfl, hS3, z1, z2, z3, by omega⟩, ?_⟩
      rintro d R4 hBr
      obtain ⟨rfl, c3, hc4, hc5, hS4⟩ := hBr c2 qs h1 _ rfl hS3
      walk_at "d"
      exact ⟨c3, _, _, _, hS4, by omega, by omega, rfl⟩
    · rintro ρ' R' ⟨c2, h1, a, b, hS3, hc3, hj, rfl⟩
      simp only [List.length_cons, List.length_nil] at hc3
      exact ⟨c2, h1, kp ++ [rs], _, _, hS3, by omega, by omega, by simp; omega, hkp2, rfl⟩
  · rintro ρ' R' ⟨c, h0, kp, a, b, hSi, hc, hi, hkl, hkp, rfl⟩
    have hts : TsShort [] := ⟨nofun, by decide⟩
    have ec : ctlL [] = [.tup []] := by
      unfold ctlL sortD
      rw [show onceD [] (ctlAll []) = [D.tup []] from rfl]
      exact List.mergeSort_singleton _
    walk_at "d"
    refine de_call (c_sameL T 3) Fm (by decide) (fun _ => rfl) ?_
    refine da_cons ?_
    refine de_lst ?_
    refine da_cons ?_
    refine de_call (c_controls T (c_controls_of T)) Fm (by decide) (fun _ => rfl) ?_
    refine da_cons ?_
    refine de_lst ?_
    walk_at "d"
    have hq0 : DL.Seq R' (.lst []) (([] : List Ru).map Ru.d) := .inl .lst
    refine ⟨rfl, ⟨_, _, [], rfl, hq0, trivial, hts⟩, ?_⟩
    rintro d R2 hB
    obtain ⟨rfl, rfl⟩ := hB _ _ [] rfl hq0 trivial
    rw [ec]
    refine da_cons ?_
    refine de_call (c_controls T (c_controls_of T)) Fm (by decide) (fun _ => rfl) ?_
    walk_at "d"
    have hq1 : DL.Seq (R' ++ [.lst [D.tup []]]) (.tup []) (([] : List Ru).map Ru.d) := .inr rfl
    refine ⟨rfl, ⟨_, _, [], rfl, hq1, trivial, hts⟩, ?_⟩
    rintro d R3 hB
    obtain ⟨rfl, rfl⟩ := hB _ _ [] rfl hq1 trivial
    rw [ec]
    walk_at "d"
    refine de_lst ?_
    walk_at "d"
    refine de_lst ?_
    walk_at "d"
    refine de_lst ?_
    walk_at "d"
    have zz : ∀ (R5 : Rs) (k : Nat), R5[k]? = some (.lst [D.tup []]) → SameA 3 [.own k, .lst [.tup []]] R5 := fun R5 k e =>
      ⟨.own k, .lst [.tup []], rfl, fun j q => (by cases q; exact ⟨_, e⟩), nofun, by rw [see_at e]; rfl, rfl, by rw [see_at e]; rfl, by rw [see_at e]; decide, by show D.sz (.lst [.tup []]) < 1000000; decide⟩
    have g0 : (R' ++ [Res.lst [D.tup []]] ++ [Res.lst [D.tup []]])[R'.length]? = some (.lst [D.tup []]) := by simp
    refine ⟨rfl, ⟨_, _, rfl, rfl, by show 2 < 1000000; decide, fun i2 a2 b2 ha2 hb2 => ?_⟩, ?_⟩
    · match i2, ha2, hb2 with
      | 0, ha2, hb2 => cases ha2; cases hb2; exact zz _ _ g0
      | 1, ha2, hb2 => cases ha2; cases hb2; exact zz _ _ snd_at
      | i2 + 2, ha2, hb2 => simp at ha2
    rintro d R5 ⟨rfl, rfl⟩
    exact .keep rfl
end My
namespace My
open PySem PySem.Spec PyProof.Rows L2 DL
theorem law_fn {P : Program} {w : World} {K : PySem.W.Frag} {h : Heap} {mg : Str → Option Value} {fa0 : Addr} (X : K.In h) (G : h.Ns mainGlobals mg) (hfa : mg ("law" : Str) = some (.ref fa0)) (c : tabs K = true ∧ He.SaysT fa fn tbs w K) :
    ∃ fd : FuncData, (∀ (s : Shared) (u : Value), BindsTo s fd ⟨[u], []⟩ [("script", u)]) ∧ ∀ base : Heap, K.In base → base.Ns mainGlobals mg → FnG ⟨P, w, K, mg, base⟩ 24 fa0 fd ["script"] 1 LawA (fun _ _ d _ => d = .bl true) := by
  have T : ∀ base : Heap, K.In base → base.Ns mainGlobals mg → Text ⟨P, w, K, mg, base⟩ := fun base Xb Gb => ⟨Xb, Gb, c.1, c.2⟩
  obtain ⟨f, fd, F, hks, hm, kp, ⟨o, lk, fo⟩, bd⟩ := c_law (T h X G)
  have hm2 : mg ("law" : Str) = some (.ref f) := hm
  rw [hfa] at hm2
  cases hm2
  refine ⟨fd, fun s u => bd s [u] rfl, fun base Xb Gb => ?_⟩
  obtain ⟨f', fd', F', hks', hm', kp', ⟨o', lk', fo'⟩, bd'⟩ := c_law (T base Xb Gb)
  have hm3 : mg ("law" : Str) = some (.ref f') := hm'
  rw [hfa] at hm3
  cases hm3
  have lk2 : K.lookup fa0 = some o' := lk'
  have lk1 : K.lookup fa0 = some o := lk
  rw [lk1] at lk2
  cases lk2
  rw [fo] at fo'
  cases fo'
  exact F'
end My
open PySem PySem.W PySem.Calls PyProof.Rows
set_option maxHeartbeats 0
theorem PySem.Challenge.cw_roadheld_k11_whole_controls_and_after_holds : PySem.Challenge.rw_roadheld_k11_whole_controls_and_after.Holds := by
  w_on; o_law
  refine HandSHeadRun.head_any (r := OpenLaw.row PySem.Challenge.rw_roadheld_k11_whole_controls_and_after) (q := view My.R.prog [43]) (H := My.hk) (ob := My.ob) (M := 6000) (loose := My.loose) (d := HandSHeadRun.topDef My.R.prog 43) (kwd := []) My.ob_eq
    (by kernel_rfl) (fun s => by kernel_rfl) My.run (by kernel_rfl) (by kernel_rfl) (by kernel_rfl) (by rfl) (by first | assumption | decide +kernel) (by decide +kernel) ⟨rfl, rfl, rfl, rfl, rfl, by decide +kernel⟩ ?hw ?hc
  case hw => w_witness2
  case hc =>
    refine DL.walk_g (l := PySem.Challenge.rw_roadheld_k11_whole_controls_and_after) (n := 63) (k := 24) (x := "script") (A := My.LawA) (B := fun _ _ d _ => d = .bl true) rfl (by decide) (by kernel_rfl) ⟨rfl, by decide, by decide⟩ ?F (fun ns hn => ⟨ns, rfl, rfl, hn⟩) (fun _ _ _ _ z => z)
    intro w mg fa h Y G hmg0
    obtain ⟨K, KX, c⟩ := Y
    have hmg : mg ("law" : PySem.Str) = some (.ref fa) := by
      have e : (HandSHeadRun.topDef My.R.prog 43).name = ("law" : PySem.Str) := by kernel_rfl
      rw [← e]
      exact hmg0
    obtain ⟨fd, hb, hF⟩ := My.law_fn (P := (PySem.Challenge.rw_roadheld_k11_whole_controls_and_after).prog) (w := w) KX G hmg c
    exact ⟨K, fd, KX, hb, hF⟩
