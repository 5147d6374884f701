"""The files of the package keep the rules of the language, and the look at them sees breaches."""

import os
import unittest

from tests.language import breaches

FOLDER = os.path.join(os.path.dirname(os.path.dirname(os.path.abspath(__file__))), "wholesound")

BAD = [
    ("L2", "import math\n"), ("L2", "from os import path\n"), ("L2", "from math import sqrt\n"),
    ("L2", "from math import gcd as other\n"), ("L2", "from wholesound.a import *\n"), ("L2", "from . import a\n"),
    ("L2", "A = 1\nfrom math import gcd\n"), ("L16", "from wholesound.none import one\n"),
    ("L16", "from wholesound.bad import one\n\n\ndef one():\n    return 1\n"),
    ("L3", "A = len([])\n"), ("L3", "A, B = 1, 2\n"), ("L3", "print(1)\n"), ("L3", "if 1:\n    A = 2\n"),
    ("L4", "def one(*rest):\n    return rest\n"), ("L4", "def one(two=[]):\n    return two\n"),
    ("L5", "class One:\n    KIND = 1\n"), ("L28", "class One:\n    def __hash__(self):\n        return 1\n"),
    ("L28", "class One:\n    def __init__(self):\n        return None if self else 1\n"),
    ("L6", "def one():\n    try:\n        return 1\n    except KeyError:\n        return 2\n"),
    ("L6", "def one():\n    global A\n"), ("L6", "def one():\n    1 + 1\n"), ("L6", "def one(two):\n    del two\n"),
    ("L7", "def one():\n    return 1.5\n"), ("L7", "def one(two):\n    return two / 2\n"),
    ("L7", "def one(two):\n    return sum(three for three in two)\n"), ("L7", "def one(two):\n    return {1, two}\n"),
    ("L7", "def one(two):\n    return [*two]\n"), ("L4", "def one():\n    return lambda: 1\n"),
    ("L8", "def one(two):\n    return hash(two)\n"), ("L8", "def one(two):\n    return chr(two)\n"),
    ("L8", "def one(two):\n    return sorted(two, key=len)\n"), ("L8", "def one(two):\n    return two.__class__\n"),
    ("L10", "def one():\n" + "    one()\n" * 40), ("L10", "A = 1\n" * 400), ("L10", "A = '" + "a" * 120 + "'\n"),
    ("L12", "def one():\n    __two = 1\n    return 1\n"), ("L12", "def one():\n    _ = 1\n    return _\n"),
    ("L12", "def _law_one():\n    return 1\n"), ("L14", "A = '\u00e9'\n"), ("L14", "def one():\n\treturn 1\n"),
    ("L15", "A = 1\nA = 2\n"), ("L15", "def one(sum):\n    return sum\n"), ("L15", "def one():\n    id = 1\n    return id\n"),
    ("L15", "class One:\n    pass\n\n\ndef two(One):\n    return One\n"),
    ("L15", "from math import gcd\n\n\ndef one(gcd):\n    return gcd\n"),
    ("L17", "def open():\n    return 1\n"), ("L17", "def one(law):\n    return law\n"), ("L17", "A = 'type'\n"),
    ("L17", "A = 'enum'\n"), ("L18", "class One(TypeError):\n    pass\n"), ("L20", "def one(two):\n    return two is one\n"),
    ("L22", "def one(two):\n    return len(obj=two)\n"), ("L23", "def one(two):\n    return zip(two, two)\n"),
    ("L23", "def one(two):\n    return [range(two)]\n"), ("L25", "def one(two):\n    return two.sort()\n"),
    ("L25", "def one(two):\n    return two.append(item=1)\n"), ("L27", "def one(two):\n    return 2 ** two\n"),
    ("L27", "A = 'a % b'\n"), ("L27", "A = '\\x00'\n"), ("L27", "A = b''\n"),
    ("L18", "class One:\n    def two(self):\n        self.two = 1\n"),
    ("L5", "@one\ndef one():\n    return 1\n"), ("L5", "class One:\n    @staticmethod\n    def two():\n        return 1\n"),
    ("L5", "class One:\n    @property\n    def two(self):\n        self.rows.append(1)\n        return self.rows\n"),
    ("L5", "class One:\n    @property\n    def two(self):\n        return self._two\n\n\nclass Two:\n    def two(self):\n        return 1\n"),
]


def package_files():
    files = {}
    for name in sorted(os.listdir(FOLDER)):
        if name != "__pycache__":
            with open(os.path.join(FOLDER, name), encoding="utf-8", newline="") as file:
                files[name] = file.read()
    return files


class Language(unittest.TestCase):

    def test_the_package_keeps_the_rules(self):
        self.assertEqual(breaches(package_files()), [])

    def test_breaches_are_seen(self):
        for rule, text in BAD:
            found = [one.split()[0] for one in breaches({"bad.py": text})]
            self.assertIn(rule, found, text)

    def test_file_names_are_looked_at(self):
        for name in ("Bad.py", "test_a.py", "law_a.py", "a.txt", "math.py", "range.py", "site.py", "a-b.py"):
            self.assertIn("L14", [one.split()[0] for one in breaches({name: "A = 1\n"})], name)

    def test_circles_are_seen(self):
        files = {"a.py": "from wholesound.b import two\nONE = 1\n", "b.py": "from wholesound.a import ONE\n\n\ndef two():\n    return 1\n"}
        self.assertIn("L16 a.py:0", breaches(files))

    def test_what_is_right_is_no_breach(self):
        text = '"""A file."""\n\nfrom math import gcd\n\nA = (1, [2], {"a": -1})\n\n\ndef one(two, three=1):\n    """Two."""\n'
        text += "    places = range(len(two))\n    for at, number in enumerate(two):\n        two[at] += gcd(number, 2 ** 3)\n"
        text += "    return [three if at is None else two[at] for at in places]\n"
        self.assertEqual(breaches({"good.py": text}), [])


if __name__ == "__main__":
    unittest.main()
