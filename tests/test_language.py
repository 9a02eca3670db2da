"""The package keeps to LANGUAGE.md, and the check of that tells what breaks it."""

import pathlib
import unittest

import language_rules

ROOT = pathlib.Path(__file__).resolve().parent.parent
FOLDER = ROOT / "swornhall"
NAMES = ("__init__.py", "errors.py", "lines.py", "crafts.py", "vouching.py", "hall.py", "runs.py")

# What breaks a rule, by the rule's number: the text of a file sample.py.
BROKEN = (
    ("L2", "import sys\n"),
    ("L2", "from .other import told\n"),
    ("L2", "from math import gcd\n"),
    ("L2", "from swornhall.other import *\n"),
    ("L3", "print(1)\n"),
    ("L3", "LIMIT = 10 ** 9\n"),
    ("L3", "TABLE = {1: [2]}\n"),
    ("L4", "def f(*parts):\n    return 1\n"),
    ("L4", "def f(part=[]):\n    return part\n"),
    ("L4", "def g():\n    return 1\n\n\n@g\ndef f():\n    return 1\n"),
    ("L5", "class A:\n    size = 1\n"),
    ("L5", "class A:\n    'words'\n"),
    ("L6", "def f(x):\n    assert x\n"),
    ("L6", "def f(x):\n    'words'\n    return x\n"),
    ("L6", "def f(x):\n    a = b = x\n    return a\n"),
    ("L6", "def f(x):\n    for a in x:\n        f(a)\n    else:\n        f(x)\n"),
    ("L6", "def f(x):\n    try:\n        f(x)\n    finally:\n        f(x)\n"),
    ("L6", "def f(x):\n    del x[0]\n"),
    ("L7", "def f(x):\n    return x / 2\n"),
    ("L7", "def f():\n    return 1.5\n"),
    ("L7", "def f(x):\n    return sum(a for a in x)\n"),
    ("L7", "def f(x):\n    return [a for b in x for a in b]\n"),
    ("L7", "def f(x):\n    return [*x]\n"),
    ("L7", "def f(x):\n    return f'{x + 1}'\n"),
    ("L8", "def f(x):\n    return round(x)\n"),
    ("L8", "def pow(x):\n    return x\n"),
    ("L10", "def f():\n" + "    f()\n" * 40),
    ("L10", "A = 1\n" + "\n" * 400),
    ("L10", "# " + "a" * 119 + "\n"),
    ("L12", "def f(_x):\n    return 1\n"),
    ("L12", "def f(x):\n    return x._y\n"),
    ("L12", "def f(x):\n    for _ in x:\n        f(x)\n"),
    ("L13", "def f(x):\n    return sorted(x, key=lambda a: a) + sorted(x, key=lambda a: -a)\n"),
    ("L14", "# caf\u00e9\n"),
    ("L15", "A = 1\nA = 2\n"),
    ("L15", "def f(min):\n    return 1\n"),
    ("L15", "class A:\n    pass\n\n\ndef f(x):\n    A = x\n    return A\n"),
    ("L15", "D = {1: 2}\n\n\ndef f():\n    D[1] = 3\n"),
    ("L15", "D = {1: 2}\n\n\ndef f():\n    return D\n"),
    ("L16", "from swornhall.other import untold\n"),
    ("L16", "from swornhall.other import told as heard\n"),
    ("L17", "# a type of its own\n"),
    ("L17", "def f(x):\n    return vars(x)\n"),
    ("L17", "def f(x):\n    return x.open\n"),
    ("L18", "class A:\n    pass\n\n\ndef f():\n    return [A]\n"),
    ("L18", "class A(AttributeError):\n    pass\n"),
    ("L18", "class A:\n    def size(self):\n        self.size = 1\n"),
    ("L19", "def f(x):\n    try:\n        f(x)\n    except Exception:\n        return 1\n"),
    ("L19", "def f(x):\n    try:\n        f(x)\n    except ValueError:\n        return 1\n"),
    ("L19", "def f(x):\n    raise x\n"),
    ("L20", "def f(x, y):\n    return x is y\n"),
    ("L21", "def f(x: int):\n    return x\n"),
    ("L22", "def f(x):\n    return f(len)\n"),
    ("L22", "def f(x):\n    return x.split(sep=',')\n"),
    ("L23", "def f(x):\n    y = zip(x, x)\n    return y\n"),
    ("L23", "def f(x):\n    for a in x:\n        x.append(a)\n"),
    ("L23", "def f(x):\n    for i, a in enumerate(x):\n        x[i] = a\n"),
    ("L24", "def f(x):\n    y = {x}\n    return y\n"),
    ("L25", "def f(x):\n    x.sort()\n"),
    ("L26", "class A:\n    def __init__(self):\n        self.items = 1\n"),
    ("L27", "def f(n):\n    return 2 ** n\n"),
    ("L27", "A = '50%'\n"),
    ("L27", "A = '\\x41'\n"),
    ("L28", "class A:\n    def __init__(self):\n        return None\n\n    def __add__(self, other):\n        return 1\n"),
)

KEPT = '''"""A file that keeps to the rules."""

from swornhall.other import told

LIMIT = 10
SPOTS = (1, 2)
TABLE = {"a": 1}


class Box:
    def __init__(self, parts):
        self.parts = list(parts)

    def fill(self, part, times=2):
        self.parts.append((part, times))


def looked_up(word):
    if word is None or word not in TABLE:
        return None
    return TABLE[word] ** 2


def walked(parts):
    found = []
    for i, part in enumerate(parts, start=1):
        if isinstance(part, (int, str)):
            found.append(told(i))
    return sorted([a for a in found if a > 0], key=lambda a: -a)
'''
OTHER = "def told(x):\n    return x\n"


def package_with(text):
    return {"__init__.py": "", "other.py": OTHER, "sample.py": text}


class TheCheck(unittest.TestCase):
    def test_finds_nothing_in_a_file_that_keeps_to_the_rules(self):
        self.assertEqual(language_rules.faults(package_with(KEPT)), [])

    def test_finds_what_breaks_a_rule(self):
        for rule, text in BROKEN:
            with self.subTest(rule=rule, text=text):
                rules = [fault[2] for fault in language_rules.faults(package_with(text))]
                self.assertIn(rule, rules)

    def test_finds_files_that_draw_from_one_another(self):
        files = {
            "__init__.py": "",
            "one.py": "from swornhall.two import g\n\n\ndef f():\n    return g()\n",
            "two.py": "from swornhall.one import f\n\n\ndef g():\n    return f()\n"}
        self.assertEqual(language_rules.faults(files), [("one.py", 1, "L16"), ("two.py", 1, "L16")])

    def test_finds_bad_file_names(self):
        for name, rule in (("Upper.py", "L1"), ("test_it.py", "L14"), ("filter.py", "L14"), ("enum.py", "L14")):
            rules = [fault[2] for fault in language_rules.faults({"__init__.py": "", name: ""})]
            self.assertEqual(rules, [rule])
        self.assertEqual(language_rules.faults({"one.py": ""}), [("__init__.py", 1, "L14")])


class ThePackage(unittest.TestCase):
    def test_its_files_keep_to_the_rules(self):
        files = {path.name: path.read_text(encoding="utf-8") for path in FOLDER.glob("*.py")}
        self.assertEqual(language_rules.faults(files), [])

    def test_its_files_are_there(self):
        for name in NAMES:
            self.assertTrue((FOLDER / name).is_file(), name)

    def test_nothing_else_lies_in_its_folder(self):
        others = [path.name for path in FOLDER.iterdir() if path.suffix != ".py" and path.name != "__pycache__"]
        self.assertEqual(others, [])


if __name__ == "__main__":
    unittest.main()
