"""A desk for made-up protocols, judged in a closed symbolic model: attacks or papers, just one of the two."""
