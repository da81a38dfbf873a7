import builtins
import pathlib
import re
import unittest

from tests.language import breaches

PACKAGE = pathlib.Path(__file__).resolve().parent.parent / "stuckwires"
BUILTIN_NAMES = {name for name in dir(builtins) if not name.startswith("_")}


def rules(text):
    return {rule for rule, row, what in breaches(text, BUILTIN_NAMES)}


def drawn(text):
    return set(re.findall(r"^from stuckwires\.(\w+) import", text, re.M))


class Files(unittest.TestCase):
    def test_nothing_else_lies_in_the_package(self):
        for path in PACKAGE.iterdir():
            if path.name != "__pycache__":
                with self.subTest(path.name):
                    self.assertTrue(path.is_file())
                    self.assertRegex(path.name, r"^([a-z][a-z0-9_]*|__init__|__main__)\.py$")
        self.assertTrue((PACKAGE / "__init__.py").is_file())

    def test_every_file_keeps_the_rules(self):
        for path in sorted(PACKAGE.glob("*.py")):
            with self.subTest(path.name):
                self.assertEqual(breaches(path.read_text(encoding="utf-8"), BUILTIN_NAMES), [])

    def test_no_two_files_draw_from_one_another(self):
        draws = {path.stem: drawn(path.read_text(encoding="utf-8")) for path in PACKAGE.glob("*.py")}
        while draws:
            free = [name for name in draws if not draws[name] & set(draws)]
            self.assertTrue(free, f"files that draw from one another: {sorted(draws)}")
            draws = {name: draws[name] for name in draws if name not in free}

    def test_names_are_drawn_from_the_file_that_defines_them(self):
        for path in PACKAGE.glob("*.py"):
            for module, names in re.findall(r"^from stuckwires\.(\w+) import (.+)$", path.read_text(), re.M):
                text = (PACKAGE / f"{module}.py").read_text(encoding="utf-8")
                for name in names.split(", "):
                    with self.subTest(file=path.name, name=name):
                        self.assertRegex(text, rf"(?m)^(def {name}\(|class {name}\(|{name} = )")


class Reader(unittest.TestCase):
    def test_it_sees_what_leaves_the_rules(self):
        for rule, text in (
            ("L2", "import sys\nfrom os import path\n"),
            ("L3", "for x in (1, 2):\n    pass\n"),
            ("L4", "def f(*xs):\n    return xs\n"),
            ("L5", "class A:\n    x = 1\n"),
            ("L6", "def f(x):\n    a, b = x\n    return a + b\n"),
            ("L6", "def f(x):\n    a = b = x\n    return a + b\n"),
            ("L6/L7", "def f(x):\n    assert x\n"),
            ("L6/L7", "def f(x):\n    return {y for y in x}\n"),
            ("L7", "def f(x):\n    return x / 2\n"),
            ("L7", "def f(x):\n    return [z for y in x for z in y]\n"),
            ("L8", "def f(x):\n    return hash(x)\n"),
            ("L10", "X = 1  #" + "-" * 120 + "\n"),
            ("L10", "def f(x):\n" + "    x = x + 1\n" * 40),
            ("L12", "def f(xs):\n    return [0 for _ in xs]\n"),
            ("L14", "X = 'caf\u00e9'\n"),
            ("L15", "def f(id):\n    return id\n"),
            ("L15", "X = 1\nX = 2\n"),
            ("L15", "X = [[1]]\n"),
            ("L17", "X = 1  # a type\n"),
            ("L19", "def f(x):\n    raise x\n"),
            ("L20", "def f(x, y):\n    return x is y\n"),
            ("L21", "def f(x: int):\n    return x\n"),
            ("L22", "def f(x):\n    return int(x, base=2)\n"),
            ("L23", "def f(x):\n    y = range(x)\n    return y\n"),
            ("L24", "def f(x):\n    y = set(x)\n    return y\n"),
            ("L18", "class A:\n    def f(self):\n        self.f = 1\n"),
            ("L25", "def f(x):\n    x.sort()\n"),
            ("L26", "class A:\n    def __init__(self):\n        self.items = 1\n"),
            ("L27", "def f(x):\n    return 2 ** x\n"),
        ):
            with self.subTest(text):
                self.assertIn(rule, rules(text))

    def test_it_lets_plain_code_by(self):
        text = '"""Plain."""\n\nfrom stuckwires.errors import NoRow\n\nBOUNDS = {"a": (1, 2)}\n\n\n'
        text += "def f(rows):\n    for place, row in enumerate(rows):\n        if row is None:\n"
        text += '            raise NoRow("words")\n    return sorted(set([row[0] for row in rows]))\n'
        self.assertEqual(rules(text), set())


if __name__ == "__main__":
    unittest.main()
