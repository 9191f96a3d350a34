"""The rules of LANGUAGE.md that can be checked by reading the source, and the shape of the interface."""

import ast
import os
import re
import unittest

from tests.rules import problems

FOLDER = os.path.join(os.path.dirname(os.path.dirname(os.path.abspath(__file__))), "framehistory")
INTERFACE = {
    "sites.py": {"Site": ("frames", "links", "home", "cap", "pushes", "drops", "clears", "reopens", "__eq__")},
    "machines.py": {
        "all_deeds": None, "is_deed": None,
        "Machine": (
            "do", "can", "possible", "copy", "site", "cares", "failure", "past", "here", "__len__", "__getitem__",
            "shown", "counts",
        ),
    },
    "states.py": {"state": None, "machine_at": None},
    "deciding.py": {
        "decide": None, "is_safe": None, "run": None, "count_states": None, "Safe": ("shows", "__eq__"),
        "Fails": ("shows", "__eq__"),
    },
    "lists.py": {"answers": None, "sufficient": None, "least_sets": None, "needed": None, "harms": None},
    "routes.py": {"route": None, "Route": ("shows", "__eq__"), "NoRoute": ("shows", "__eq__")},
    "keeping.py": {"count_kept": None, "most_kept": None, "Peak": ("shows", "__eq__")},
    "fields.py": {
        "family": None, "breaches": None, "rescues": None, "choose": None,
        "Family": ("least", "greatest", "shows", "__eq__"), "Chosen": ("shows", "__eq__"),
    },
    "sessions.py": {"Session": ("journal", "__len__", "machine", "deed", "undo", "branch", "trial", "tried")},
    "texts.py": {
        "site_text": None, "read_site": None, "cares_text": None, "read_cares": None, "deed_text": None,
        "journal_text": None, "read_journal": None, "replay": None,
    },
    "digits.py": {"encode": None, "decode": None},
}
BAD = (
    ("L2", "import os"), ("L2", "from os import path"), ("L2", "from framehistory.a import *"),
    ("L2", "from .a import f"), ("L2", "def f():\n    pass\n\n\nfrom framehistory.a import g"),
    ("L3", "if True:\n    n = 1"), ("L3", "n = f()"), ("L4", "@g\ndef f():\n    pass"), ("L4", "def f(n=[]):\n    pass"),
    ("L5", "class A:\n    def __getitem__(self, at):\n        return 1"), ("L5", "class A:\n    def __hash__(self):\n        return 1"),
    ("L5", "class A:\n    @property\n    def n(self):\n        self.rows.append(1)\n        return 1"),
    ("L6", "def f():\n    global n"), ("L6", "async def f():\n    pass"), ("L7", "def f(n):\n    return n / 2"),
    ("L7", "def f():\n    return 1.5"), ("L7", "def f(rows):\n    return (k for k in rows)"),
    ("L8", "def f(n):\n    return round(n)"), ("L8", "def f(n):\n    return n.__hash__"),
    ("L10", "def f():\n" + "    n = 1\n" * 40), ("L10", "n = 1\n" * 400), ("L10", "n = " + "1" * 120),
    ("L12", "def f(__n):\n    pass"), ("L12", "def f():\n    _ = 1\n    return _"),
    ("L12", "class A:\n    def __init__(self):\n        self._record = 1"),
    ("L13", "def f():\n    return (lambda k: 1, lambda k: 2)"), ("L14", "n = '\u00e9'"), ("L15", "n = 1\nn = 2"),
    ("L15", "def f(min):\n    pass"), ("L15", "class A:\n    pass\n\n\ndef f(A):\n    pass"), ("L17", "def f(a):\n    return a.type"),
    ("L17", "def f(open_):\n    return open_.law"), ("L17", "def f(vars):\n    pass"),
    ("L18", "class A:\n    def f(self):\n        pass\n\n    def f(self):\n        pass"),
    ("L18", "class A:\n    def n(self):\n        self.n = 1"), ("L18", "def f(a):\n    return a.unknown"),
    ("L19", "def f():\n    try:\n        pass\n    except Exception:\n        pass"), ("L19", "def f(e):\n    raise e"),
    ("L20", "def f(a, b):\n    return a is b"), ("L21", "def f(n: int):\n    pass"), ("L22", "def f(n, k):\n    return isinstance(n, k)"),
    ("L22", "def f():\n    return len"), ("L23", "def f(rows):\n    kept = zip(rows, rows)\n    return kept"),
    ("L23", "def f(rows):\n    for row in rows:\n        rows.append(row)"),
    ("L23", "def f():\n    yield 1\n\n\ndef g():\n    return f()"), ("L24", "def f(xs):\n    return set(xs)"),
    ("L24", "def f():\n    return {1, 2}"), ("L25", "def f(n):\n    return n.hex()"),
    ("L26", "class A:\n    def encode(self):\n        return 1"), ("L26", "class A:\n    def __init__(self):\n        self.items = 1"),
    ("L27", "n = 'a%b'"), ("L27", "def f(a, b):\n    return a ** b"), ("L28", "class A:\n    def __len__(self):\n        return self.f()"),
    ("L6", "class A:\n    def __exit__(self, kind, value, trace):\n        self.f()"),
    ("L6", "class A:\n    def __exit__(self, kind, value, trace):\n        self.n = self.rows[0]"),
    ("L6", "class A:\n    def __exit__(self, kind):\n        self.n = 1"),
    ("L6", "class A:\n    def __exit__(self, kind, value, trace):\n        return True"),
)


def sources():
    found = {}
    for name in sorted(os.listdir(FOLDER)):
        if name != "__pycache__":
            with open(os.path.join(FOLDER, name), encoding="utf-8", newline="") as file:
                found[name] = file.read()
    return found


class Language(unittest.TestCase):
    def test_files(self):
        names = list(sources())
        self.assertIn("__init__.py", names)
        for name in names:
            self.assertRegex(name, r"^(__init__|[a-z][a-z0-9_]*)\.py$")
            self.assertFalse(re.match(r"(law_|test_)|(tests?|testing|site|conftest)\.py$", name), name)
        self.assertLessEqual(len(names), 100)

    def test_rules(self):
        self.assertEqual(problems(sources()), [])

    def test_the_rules_are_alive(self):
        for rule, text in BAD:
            found = problems({"a.py": text})
            self.assertIn(rule, [row[0] for row in found], text)

    def test_files_that_import_from_each_other(self):
        first = "from framehistory.b import g\n\n\ndef f():\n    return g()\n"
        second = "from framehistory.a import f\n\n\ndef g():\n    return f()\n"
        self.assertIn("L16", [row[0] for row in problems({"a.py": first, "b.py": second})])


class Interface(unittest.TestCase):
    def test_functions_and_classes_are_defined_in_their_files(self):
        found = sources()
        for name, members in INTERFACE.items():
            nodes = {node.name: node for node in ast.parse(found[name]).body if hasattr(node, "name")}
            for member, methods in members.items():
                self.assertIn(member, nodes)
                self.assertIsInstance(nodes[member], ast.FunctionDef if methods is None else ast.ClassDef)
                inner = [node.name for node in nodes[member].body if isinstance(node, ast.FunctionDef)]
                for method in methods or ():
                    self.assertIn(method, inner)


if __name__ == "__main__":
    unittest.main()
