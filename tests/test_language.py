"""The package keeps to the plain part of Python that it is to be written in."""

import ast
import pathlib
import re
import unittest

from tests.language import defined_at_top, faults_of, imports_of, methods_of

PACKAGE = pathlib.Path(__file__).resolve().parent.parent / "pilesblends"


def texts():
    """The text of each file, by its module's name."""
    return {"pilesblends." + path.stem: path.read_text(encoding="utf-8") for path in sorted(PACKAGE.glob("*.py"))}


class PackageTest(unittest.TestCase):
    def test_files(self):
        names = [path.name for path in PACKAGE.iterdir() if path.name != "__pycache__"]
        self.assertIn("__init__.py", names)
        self.assertIn("plant.py", names)
        for name in names:
            self.assertTrue(name == "__init__.py" or re.fullmatch(r"[a-z][a-z0-9_]*\.py", name), name)

    def test_each_file_keeps_to_the_language(self):
        methods = set()
        for text in texts().values():
            methods |= methods_of(ast.parse(text))
        for name, text in texts().items():
            self.assertEqual(faults_of(text, own_methods=methods), [], name)

    def test_names_are_drawn_from_the_file_that_defines_them(self):
        files = texts()
        for name, text in files.items():
            for module, drawn in imports_of(text):
                self.assertIn(drawn, defined_at_top(files[module]), name)

    def test_every_drawn_name_is_used(self):
        for name, text in texts().items():
            for module, drawn in imports_of(text):
                self.assertGreater(len(re.findall(r"\b%s\b" % drawn, text)), 1, (name, drawn))

    def test_no_two_files_draw_from_one_another(self):
        left = {name: {module for module, drawn in imports_of(text)} for name, text in texts().items()}
        while left:
            free = [name for name in left if not left[name] & set(left)]
            self.assertTrue(free, left)
            for name in free:
                left.pop(name)


FAULTY = {
    "L2": "from math import gcd\n",
    "L16 import": "import sys\n",
    "L3 top": "for number in range(3):\n    pass\n",
    "L3 value": "A = len([1])\n",
    "L15 within": "A = [[1], [2]]\n",
    "L15 twice A": "A = 1\nA = 2\n",
    "L4": "def one(*rest):\n    return rest\n",
    "L5 body": "class One:\n    kept = 1\n",
    "L6": "def one(two):\n    assert two\n",
    "L6 targets": "def one():\n    two = three = 1\n    return two + three\n",
    "L7": "def one(two):\n    return sum(three for three in two)\n",
    "L7 value": "A = 1.5\n",
    "L7 sign": "def one(two):\n    return two / 2\n",
    "L8 open": "def one(two):\n    return open(two)\n",
    "L10 line": "A = 1  #" + " x" * 60 + "\n",
    "L10 function": "def one():\n" + "    pass\n" * 40,
    "L12 _": "def one():\n    _ = 1\n",
    "L14 sign": "A = 'é'\n",
    "L15 hash": "def one(hash):\n    return hash\n",
    "L17 word": "# a type\n",
    "L20": "def one(two):\n    return two is one\n",
    "L23 zip": "def one(two):\n    return one(zip(two, two))\n",
    "L25 sort": "def one(two):\n    two.sort()\n",
    "L26 sort": "def one(two):\n    two.sort = 1\n",
    "L27 power": "def one(two):\n    return 2 ** two\n",
}


class LookTest(unittest.TestCase):
    def test_faulty_code_is_found(self):
        for fault, text in FAULTY.items():
            self.assertIn(fault, [found for row, found in faults_of(text)])

    def test_plain_code_is_not(self):
        text = "A = (1, 2)\n\n\ndef one(two):\n    return [A[0] + three for three in two if three is not None]\n"
        self.assertEqual(faults_of(text), [])
