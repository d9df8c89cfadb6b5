"""The part of Python that the package keeps to; with it point [1]: no clock, chance or files."""

import pathlib
import unittest

from language import faults, faults_between

PACKAGE = pathlib.Path(__file__).resolve().parent.parent / "signsums"

TOP = '"""Why."""\n'
GOOD = (
    "X = 5",
    "X = (1, 2)",
    "from signsums.errors import NoRow",
    "class Mine(ValueError):\n    pass",
    "def f(a, b=1):\n    return [x for x in a if x > b]",
    "def f(a):\n    return sum([1 for x, y in zip(a, a) if x != y])",
    "def f(a):\n    return f'{a} {a!r}'",
    "def f(a):\n    return ' '.join([str(x) for x in a])",
    "def f(a):\n    if a is None:\n        raise ValueError('why')\n    return a ** 20",
    "def f(a):\n    return min(a, key=lambda x: -x)",
)
# Each leaves one rule.
BAD = (
    "import os", "import signsums.rows", "from os import path", "from .rows import is_row", "from signsums import rows",
    "from signsums.rows import *", "def f():\n    from signsums.rows import is_row\n    return is_row",
    "X = 10 ** 20", "X = [[1], [2]]", "X = len('a')", "print(1)", "for x in (1, 2):\n    pass", "if True:\n    pass",
    "X = 1\nX = 2", "X = Y = 1", "def f():\n    pass\ndef f():\n    pass", "X = 1\ndef f(X):\n    return X",
    "def f(*a):\n    return a", "def f(**a):\n    return a", "def f(a, *, b):\n    return a", "@f\ndef g():\n    pass",
    "def f(a: int):\n    return a", "def f(a) -> int:\n    return a", "def f(a, b=g()):\n    return a",
    "class A(B, C):\n    pass", "class A:\n    x = 1", "def f():\n    class A:\n        pass",
    "def f():\n    with g() as a:\n        pass", "def f(a):\n    del a", "def f(a):\n    assert a",
    "def f():\n    global a\n    a = 1", "def f(a):\n    yield a", "async def f(a):\n    return a",
    "def f(a):\n    for x in a:\n        pass\n    else:\n        pass", "def f(a):\n    match a:\n        case 1:\n"
    "            pass", "def f(a):\n    try:\n        f(a)\n    finally:\n        pass",
    "def f(a):\n    try:\n        f(a)\n    except:\n        pass",
    "def f(a):\n    try:\n        f(a)\n    except Exception:\n        pass",
    "def f(a):\n    try:\n        f(a)\n    except ValueError:\n        pass",
    "def f(a):\n    a == 1", "def f(a):\n    return a / 2", "def f():\n    return 1.5", "def f():\n    return b'a'",
    "def f(a):\n    return {1, 2}", "def f(a):\n    return set(a)", "def f(a):\n    return {x for x in a}",
    "def f(a):\n    return {x: x for x in a}", "def f(a):\n    return sum(x for x in a)",
    "def f(a):\n    return (b := a)", "def f(a):\n    return [*a]", "def f(a):\n    return f(*a)",
    "def f(a):\n    return f(**a)", "def f(a):\n    return [x for y in a for x in y]",
    "def f(a):\n    return [x for x in a if x if x > 1]", "def f(a):\n    return f'{a + 1}'",
    "def f(a):\n    return f'{a:>5}'", "def f(a):\n    return hash(a)", "def f(a):\n    return pow(a, 2)",
    "def f(a):\n    return chr(a)", "def f(a):\n    return open(a)", "def f(a):\n    return print(a)",
    "def f(len):\n    return len", "def f(id):\n    return id", "def f(a):\n    sum = a\n    return sum",
    "def f(_a):\n    return _a", "def f(a):\n    return [1 for _ in a]", "def f(a):\n    return a.sort()",
    "def f(a):\n    return a.format(1)", "def f(a):\n    return a.append", "def f(a):\n    b = len\n    return b(a)",
    "def f(a):\n    b = range(a)\n    return b", "def f(a):\n    return zip(a, a)",
    "def f(a):\n    b = a.items()\n    return b", "def f(a):\n    return a.split(sep=' ')",
    "def f(a):\n    return int(a, base=10)", "def f(a):\n    return 2 ** a", "def f(a):\n    return a ** 65",
    "def f(a):\n    return '%' + a", "def f(a):\n    return '\\x41' + a", "def f(a, b):\n    return a is b",
    "# of this type", "# a dataclass", "# \u00e4", "def f(a):\n\treturn a", "# " + "a" * 119, "# a\n" * 400,
    "def f(a):\n" + "    f(a)\n" * 40, "def f(a):\n    print('a')", "def f(a):\n    return a.real",
)


def texts():
    return {path.stem: path.read_bytes().decode("utf-8") for path in files()}


def files():
    return sorted(path for path in PACKAGE.rglob("*") if path.is_file() and "__pycache__" not in path.parts)


class TestPackage(unittest.TestCase):
    def test_one_folder_of_python_files(self):
        names = [path.relative_to(PACKAGE).as_posix() for path in files()]
        self.assertEqual(sorted(names), sorted(f"{module}.py" for module in texts()))
        for module in ("__init__", "errors", "sums", "woven", "straight", "flat", "notes"):
            self.assertIn(module, texts())

    def test_each_file_keeps_to_the_rules(self):
        for module, text in texts().items():
            self.assertEqual(faults(module, text), [], module)

    def test_the_files_together(self):
        self.assertEqual(faults_between(texts()), [])


class TestReader(unittest.TestCase):
    """The reader itself, so that a rule that is left is seen."""

    def test_what_keeps_to_the_rules(self):
        for text in GOOD:
            with self.subTest(text=text):
                self.assertEqual(faults("some", TOP + text + "\n"), [])

    def test_what_leaves_them(self):
        for text in BAD:
            with self.subTest(text=text):
                self.assertNotEqual(faults("some", TOP + text + "\n"), [])

    def test_names_of_files(self):
        for module in ("sum", "test", "tests", "test_rows", "format", "Rows", "_rows", "__other__", "enum", "site"):
            with self.subTest(module=module):
                self.assertNotEqual(faults(module, TOP), [])

    def test_a_file_without_a_docstring(self):
        self.assertNotEqual(faults("some", "X = 1\n"), [])

    def test_files_together(self):
        one = "from signsums.b import g\ndef f():\n    return g()\n"
        other = "from signsums.a import f\ndef g():\n    return f()\n"
        self.assertNotEqual(faults_between({"__init__": TOP, "a": one, "b": other}), [])
        self.assertNotEqual(faults_between({"__init__": TOP, "a": one, "b": TOP}), [])
        self.assertNotEqual(faults_between({"__init__": "a = 1\n", "a": TOP}), [])
        self.assertEqual(faults_between({"__init__": TOP, "a": one, "b": "def g():\n    return 1\n"}), [])


if __name__ == "__main__":
    unittest.main()
