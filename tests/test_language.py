"""Whether the files of the package keep to the small part of the language in which the program is written."""

import ast
import builtins
import io
import pathlib
import re
import tokenize
import unittest

PACKAGE = pathlib.Path(__file__).resolve().parent.parent / "roadheld"
STATEMENTS = (ast.FunctionDef, ast.ClassDef, ast.Return, ast.Assign, ast.AugAssign, ast.For, ast.While, ast.If,
              ast.Raise, ast.Expr, ast.Pass, ast.Break, ast.Continue, ast.ImportFrom, ast.Delete, ast.Try)
BARRED = (ast.Lambda, ast.GeneratorExp, ast.Set, ast.SetComp, ast.Yield, ast.YieldFrom, ast.Await, ast.NamedExpr,
          ast.JoinedStr, ast.Div, ast.MatMult, ast.Mod, ast.Pow)
LIBRARY = {"heapq": {"heappush", "heappop"}}
BUILTINS = {"len", "range", "enumerate", "zip", "min", "max", "sum", "abs", "sorted", "reversed", "int", "str", "bool",
            "list", "tuple", "dict", "isinstance", "any", "all", "divmod", "ValueError"}
METHODS = set("append clear copy count endswith extend find get index insert isalpha isascii isdigit islower items join keys "
              "partition pop remove replace setdefault split startswith strip update values bit_length".split())
OF_VALUES = {name for kind in (str, int, list, dict, set, bytes) for name in dir(kind) if not name.startswith("_")}
NOWHERE = {"register", "mro", "elements", "open", "input", "law", "version_info", "with_traceback", "add_note"}
NO_VARIABLES = set("attrgetter breakpoint builtins compile copyright credits delattr dir eval exec exit gc getattr "
                   "globals hasattr help id importlib license locals methodcaller os quit setattr super type vars "
                   "sys".split())
NO_WORDS = set("type typing typing_extensions enum Enum IntEnum StrEnum Flag IntFlag Generic Protocol ABC ABCMeta "
               "namedtuple NamedTuple TypedDict TYPE_CHECKING abstractmethod".split())
CHANGING = {"append", "clear", "extend", "insert", "pop", "remove", "reverse", "setdefault", "update", "sort"}
DOUBLE = {"__init__", "__eq__"}


def files():
    return sorted(PACKAGE.glob("*.py"))


def tree_of(path):
    return ast.parse(path.read_text())


def functions(tree):
    return [node for node in ast.walk(tree) if isinstance(node, ast.FunctionDef)]


def bound_names(function):
    names = {argument.arg for argument in function.args.args}
    names |= {node.id for node in ast.walk(function) if isinstance(node, ast.Name) and isinstance(node.ctx, ast.Store)}
    return names


def is_docstring(node):
    return isinstance(node, ast.Expr) and isinstance(node.value, ast.Constant) and isinstance(node.value.value, str)


def without_strings_of_documents(tree):
    for node in ast.walk(tree):
        if isinstance(node, (ast.Module, ast.ClassDef, ast.FunctionDef)) and node.body and is_docstring(node.body[0]):
            node.body = node.body[1:] or [ast.Pass()]
    return tree


def is_plain(node):
    if isinstance(node, ast.UnaryOp):
        return isinstance(node.op, ast.USub) and isinstance(node.operand, ast.Constant)
    if isinstance(node, (ast.Constant, ast.Name)):
        return True
    if isinstance(node, ast.Tuple):
        return all(is_plain(item) for item in node.elts)
    if isinstance(node, ast.Dict):
        return all(is_plain(item) for item in node.keys + node.values)
    return False


def changed_in(body):
    """The texts of what is changed somewhere in some statements by an item, a method that changes, or a heap."""
    changed = set()
    for statement in body:
        for node in ast.walk(statement):
            if isinstance(node, ast.Call) and isinstance(node.func, ast.Attribute) and node.func.attr in CHANGING:
                changed.add(ast.unparse(node.func.value))
            if isinstance(node, ast.Call) and isinstance(node.func, ast.Name) and node.func.id.startswith("heap"):
                changed.add(ast.unparse(node.args[0]))
            if isinstance(node, ast.Subscript) and isinstance(node.ctx, (ast.Store, ast.Del)):
                changed.add(ast.unparse(node.value))
            if isinstance(node, ast.AugAssign):
                changed.add(ast.unparse(node.target))
    return changed


def iterated(node):
    """The texts of what a loop goes over."""
    if isinstance(node, ast.Call):
        of = [node.func.value] if isinstance(node.func, ast.Attribute) else []
        if isinstance(node.func, ast.Name) and node.func.id in ("list", "sorted"):
            return set()
        return set().union(*[iterated(part) for part in of + node.args])
    if isinstance(node, (ast.Name, ast.Attribute, ast.Subscript)):
        return {ast.unparse(node)}
    return set()


class TestFiles(unittest.TestCase):
    def test_folder_holds_only_plain_files(self):
        names = [path.name for path in PACKAGE.iterdir() if path.name != "__pycache__"]
        self.assertTrue(all(re.fullmatch(r"[a-z_]+\.py", name) for name in names), names)
        self.assertIn("__init__.py", names)
        self.assertLessEqual(len(names), 100)
        for name in names:
            self.assertTrue(name == "__init__.py" or not hasattr(builtins, name[:-3]), name)

    def test_signs_and_sizes(self):
        for path in files():
            text = path.read_text()
            with self.subTest(path.name):
                self.assertTrue(all(sign == "\n" or " " <= sign <= "~" for sign in text))
                lines = text.split("\n")
                self.assertLessEqual(len(lines), 399)
                self.assertLessEqual(max(len(line) for line in lines), 120)
                for function in functions(ast.parse(text)):
                    self.assertLessEqual(function.end_lineno - function.lineno + 1, 40, function.name)

    def test_words(self):
        for path in files():
            text = path.read_text()
            with self.subTest(path.name):
                self.assertNotIn("_wall", text)
                for word in ("dataclass", "overload", "contextmanager"):
                    self.assertNotIn(word, text)
                code = ast.unparse(without_strings_of_documents(ast.parse(text)))
                self.assertFalse(NO_WORDS & set(re.findall(r"\w+", code)))
                for token in tokenize.generate_tokens(io.StringIO(text).readline):
                    if token.type == tokenize.STRING:
                        self.assertNotIn("%", token.string)
                        self.assertNotIn("\\", token.string.replace("\\n", ""))


class TestImports(unittest.TestCase):
    def test_imports(self):
        defined = {}
        imported = {}
        for path in files():
            tree = tree_of(path)
            named = set()
            for node in tree.body:
                if isinstance(node, (ast.FunctionDef, ast.ClassDef)):
                    named.add(node.name)
                if isinstance(node, ast.Assign):
                    named |= {target.id for target in node.targets}
            defined[path.stem] = named
        for path in files():
            imported[path.stem] = set()
            seen = set(defined[path.stem])
            for node in ast.walk(tree_of(path)):
                self.assertNotIsInstance(node, ast.Import)
                if not isinstance(node, ast.ImportFrom):
                    continue
                names = {alias.name for alias in node.names}
                self.assertFalse(names & seen, (path.name, names & seen))
                seen |= names
                self.assertTrue(all(alias.asname is None for alias in node.names))
                if node.module in LIBRARY:
                    self.assertLessEqual(names, LIBRARY[node.module])
                    continue
                package, module = node.module.split(".")
                self.assertEqual((package, node.level), ("roadheld", 0))
                self.assertLessEqual(names, defined[module], path.name)
                imported[path.stem].add(module)
        self.assertFalse(self.circles(imported))

    def test_imported_names_are_used(self):
        for path in files():
            tree = tree_of(path)
            used = {node.id for node in ast.walk(tree) if isinstance(node, ast.Name)}
            for node in tree.body:
                if isinstance(node, ast.ImportFrom):
                    self.assertLessEqual({alias.name for alias in node.names}, used, path.name)

    def circles(self, imported):
        left = {name: set(others) for name, others in imported.items()}
        while True:
            free = [name for name in left if not left[name] & set(left)]
            if not free:
                return left
            for name in free:
                del left[name]


class TestCode(unittest.TestCase):
    def test_statements_and_expressions(self):
        for path in files():
            for node in ast.walk(tree_of(path)):
                where = (path.name, getattr(node, "lineno", 0))
                if isinstance(node, ast.stmt):
                    self.assertIsInstance(node, STATEMENTS, where)
                self.assertNotIsInstance(node, BARRED, where)
                if isinstance(node, ast.Expr):
                    self.assertTrue(is_docstring(node) or isinstance(node.value, ast.Call), where)
                if isinstance(node, ast.Constant):
                    self.assertNotIsInstance(node.value, (float, complex, bytes), where)
                if isinstance(node, ast.Compare):
                    for sign, side in zip(node.ops, node.comparators):
                        if isinstance(sign, (ast.Is, ast.IsNot)):
                            self.assertIsInstance(side, ast.Constant, where)
                if isinstance(node, (ast.FunctionDef, ast.ClassDef)):
                    self.assertFalse(node.decorator_list, where)
                if isinstance(node, ast.Try):
                    self.assertEqual([ast.unparse(handler.type) for handler in node.handlers], ["ProtocolError"], where)
                    self.assertFalse(node.orelse or node.finalbody or node.handlers[0].name, where)
                if isinstance(node, ast.Raise):
                    self.assertTrue(isinstance(node.exc, ast.Call) and (
                        node.exc.func.id.startswith("Bad") or node.exc.func.id == "Crowded"), where)

    def test_stars_stand_in_zip_alone(self):
        for path in files():
            tree = tree_of(path)
            allowed = {id(part) for node in ast.walk(tree) if isinstance(node, ast.Call) and ast.unparse(node.func) == "zip"
                       for part in node.args if isinstance(part, ast.Starred) and isinstance(part.value, ast.Name)}
            for node in ast.walk(tree):
                if isinstance(node, ast.Starred):
                    self.assertIn(id(node), allowed, (path.name, node.lineno))

    def test_module_level(self):
        for path in files():
            names = set()
            for node in tree_of(path).body:
                if isinstance(node, ast.Assign):
                    self.assertTrue(len(node.targets) == 1 and is_plain(node.value), path.name)
                    self.assertNotIn(node.targets[0].id, names)
                    names.add(node.targets[0].id)
                else:
                    self.assertTrue(is_docstring(node) or isinstance(
                        node, (ast.ImportFrom, ast.FunctionDef, ast.ClassDef)), path.name)

    def test_functions_stand_at_module_level_or_in_classes(self):
        for path in files():
            for function in functions(tree_of(path)):
                inner = [node for node in ast.walk(function) if isinstance(node, (ast.FunctionDef, ast.ClassDef))]
                self.assertEqual(inner, [function], path.name)
                self.assertFalse(function.args.vararg or function.args.kwarg or function.args.kwonlyargs)
                self.assertTrue(is_docstring(function.body[0]) or function.name in DOUBLE, function.name)

    def test_names(self):
        for path in files():
            tree = tree_of(path)
            outer = set()
            for node in tree.body:
                if isinstance(node, ast.ImportFrom):
                    outer |= {alias.name for alias in node.names}
                if isinstance(node, ast.ClassDef):
                    outer.add(node.name)
            for function in functions(tree):
                names = bound_names(function)
                self.assertFalse(names & outer, (path.name, function.name, names & outer))
                for name in names | {function.name}:
                    self.assertTrue(name in DOUBLE or not hasattr(builtins, name), (path.name, function.name, name))
                    self.assertNotIn(name, NOWHERE | NO_VARIABLES)
                    self.assertTrue(not name.startswith("__") or name in DOUBLE)
                reads = [node for node in ast.walk(function) if isinstance(node, ast.Name) and node.id == "_"
                         and isinstance(node.ctx, ast.Load)]
                self.assertFalse(reads, (path.name, function.name))

    def test_calls(self):
        trees = {path: tree_of(path) for path in files()}
        own_methods = {function.name for tree in trees.values() for kind in tree.body if isinstance(kind, ast.ClassDef)
                       for function in functions(kind)}
        self.assertFalse(own_methods & OF_VALUES)
        for path, tree in trees.items():
            # What is taken from a table, or handed in, to be called.
            known = set(BUILTINS) | {"edit_of", "ask"}
            for node in tree.body:
                if isinstance(node, (ast.FunctionDef, ast.ClassDef)):
                    known.add(node.name)
                if isinstance(node, ast.ImportFrom):
                    known |= {alias.name for alias in node.names}
            for node in ast.walk(tree):
                if not isinstance(node, ast.Call):
                    continue
                where = (path.name, node.lineno, ast.unparse(node))
                self.assertFalse(node.keywords, where)
                if isinstance(node.func, ast.Attribute):
                    self.assertIn(node.func.attr, METHODS | own_methods, where)
                else:
                    self.assertIn(node.func.id, known, where)

    def test_builtins_are_called_and_views_iterated_at_once(self):
        for path in files():
            tree = tree_of(path)
            called = {id(node.func) for node in ast.walk(tree) if isinstance(node, ast.Call)}
            allowed = set()
            for node in ast.walk(tree):
                if isinstance(node, (ast.For, ast.comprehension)):
                    allowed.add(id(node.iter))
                if isinstance(node, ast.Call) and isinstance(node.func, ast.Name) and node.func.id in (
                        "list", "tuple", "dict", "sorted", "sum", "any", "all", "enumerate", "zip", "isinstance"):
                    allowed |= {id(part) for part in node.args}
            for node in ast.walk(tree):
                if isinstance(node, ast.Name) and node.id in BUILTINS - {"ValueError"} and id(node) not in called:
                    inside = [call for call in ast.walk(tree) if isinstance(call, ast.Call)
                              and isinstance(call.func, ast.Name) and call.func.id == "isinstance"
                              and any(part is node for part in ast.walk(call.args[1]))]
                    self.assertTrue(inside, (path.name, node.lineno))
                if isinstance(node, ast.Call):
                    named = node.func.id if isinstance(node.func, ast.Name) else node.func.attr
                    if named in ("zip", "enumerate", "reversed", "range", "items", "keys", "values"):
                        self.assertIn(id(node), allowed, (path.name, node.lineno))

    def test_what_is_iterated_over_is_not_changed(self):
        for path in files():
            for node in ast.walk(tree_of(path)):
                if isinstance(node, ast.For):
                    both = iterated(node.iter) & changed_in(node.body)
                    self.assertFalse(both, (path.name, node.lineno, both))

    def test_classes(self):
        for path in files():
            for node in tree_of(path).body:
                if not isinstance(node, ast.ClassDef):
                    continue
                methods = [function.name for function in node.body if isinstance(function, ast.FunctionDef)]
                self.assertEqual(len(methods), len(set(methods)))
                stored = {part.attr for part in ast.walk(node)
                          if isinstance(part, ast.Attribute) and isinstance(part.ctx, ast.Store)}
                self.assertFalse(stored & set(methods), node.name)
                self.assertFalse(stored & {"items", "keys", "values", "pop", "update", "append", "clear", "extend",
                                           "insert", "remove", "reverse", "setdefault", "sort", "args", "format"})


if __name__ == "__main__":
    unittest.main()
