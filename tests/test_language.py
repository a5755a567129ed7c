"""The package keeps to the rules of the language, and the check of them is awake."""

import pathlib
import unittest

from language import faults

TOP = pathlib.Path(__file__).resolve().parent.parent
FOLDER = TOP / "sashiko"

BROKEN = (
    ("L2", "import re\n"),
    ("L2", "from re import match\n"),
    ("L2", "from .errors import SewError\n"),
    ("L2", "def f():\n    from sashiko.errors import SewError\n    return SewError()\n"),
    ("L3", "print(1)\n"),
    ("L3", "HELD = [k for k in (1, 2)]\n"),
    ("L4", "def f(*given):\n    return given\n"),
    ("L4", "def f(**given):\n    return given\n"),
    ("L4", "def f(given=[]):\n    return given\n"),
    ("L5", "class A:\n    held = 1\n"),
    ("L6", "def f():\n    a = b = 1\n    return a + b\n"),
    ("L6", "def f(a):\n    assert a\n"),
    ("L6", "def f(a):\n    for b in a:\n        pass\n    else:\n        pass\n"),
    ("L6", "def f(a):\n    yield a\n"),
    ("L7", "def f(a):\n    return a / 2\n"),
    ("L7", "def f(a):\n    return a * 1.5\n"),
    ("L7", "def f(a):\n    return sum(b for b in a)\n"),
    ("L7", "def f(a):\n    return {b: 1 for b in a}\n"),
    ("L7", "def f(a):\n    return [c for b in a for c in b]\n"),
    ("L7", "def f(a):\n    return f'{a + 1}'\n"),
    ("L7", "def f(a):\n    return g(*a)\n"),
    ("L8", "def f(a):\n    return round(a)\n"),
    ("L8", "def f(a):\n    return print(a)\n"),
    ("L10", "def f(a):\n" + "    a = a + 1\n" * 40),
    ("L10", "A = 1\n" * 401),
    ("L10", "A = '" + "a" * 120 + "'\n"),
    ("L12", "def _f():\n    return 1\n"),
    ("L12", "def f(a):\n    for _ in a:\n        pass\n"),
    ("L14", "# caf\u00e9\n"),
    ("L15", "A = 1\nA = 2\n"),
    ("L15", "A = [[1]]\n"),
    ("L15", "def f(round):\n    return round\n"),
    ("L16", "from sashiko.cloth import BadBit\n"),
    ("L17", "def f(a):\n    return type(a)\n"),
    ("L17", "def f(a):\n    return getattr(a, 'b')\n"),
    ("L18", "class A:\n    def held(self):\n        return 1\n\n    def held(self):\n        return 2\n"),
    ("L18", "class A:\n    def __init__(self):\n        self.shade = 1\n"),
    ("L19", "def f(a):\n    try:\n        return a[0]\n    except Exception:\n        return None\n"),
    ("L19", "def f(a):\n    try:\n        return f(a)\n    except ValueError:\n        return None\n"),
    ("L19", "def f(a):\n    try:\n        return f(a)\n    except (KeyError, ValueError):\n        return None\n"),
    ("L19", "def f(e):\n    raise e\n"),
    ("L20", "def f(a, b):\n    return a is b\n"),
    ("L21", "def f(a: int):\n    return a\n"),
    ("L22", "def f(a):\n    return [g(len) for b in a]\n"),
    ("L22", "def f(a):\n    return int(a, base=3)\n"),
    ("L23", "def f(a):\n    return range(a)\n"),
    ("L23", "def f(a):\n    for b in a:\n        a.append(b)\n"),
    ("L24", "def f(a):\n    return set(a)\n"),
    ("L25", "def f(a):\n    a.sort()\n"),
    ("L26", "class A:\n    def __init__(self):\n        self.items = 1\n"),
    ("L27", "def f(a):\n    return 2 ** a\n"),
    ("L27", "A = '100 %'\n"),
    ("L27", "A = '\\x41'\n"),
    ("L28", "class A:\n    def __eq__(self, other):\n        return True\n"),
)


def own_sources():
    paths = sorted(path for path in FOLDER.rglob("*") if path.is_file() and path.suffix != ".pyc")
    return {path.relative_to(TOP).as_posix(): path.read_bytes().decode("ascii") for path in paths}


class Language(unittest.TestCase):
    def test_the_package_keeps_to_the_rules(self):
        self.assertEqual(faults(own_sources()), [])

    def test_the_package_has_the_interface_files(self):
        named = "__init__ errors cloth seams within regions picture sew rolled finds chest notes"
        for name in named.split():
            self.assertIn(f"sashiko/{name}.py", own_sources())

    def test_each_broken_file_is_seen(self):
        for rule, text in BROKEN:
            with self.subTest(text):
                found = faults({**own_sources(), "sashiko/broken.py": text})
                self.assertIn(rule, [fault[0] for fault in found])

    def test_broken_paths_are_seen(self):
        for rule, path in (("L1", "sashiko/Big.py"), ("L1", "sashiko/deep/a.py"), ("L14", "sashiko/len.py")):
            with self.subTest(path):
                self.assertIn(rule, [fault[0] for fault in faults({**own_sources(), path: ""})])

    def test_a_ring_of_files_is_seen(self):
        ring = {
            "sashiko/left.py": "from sashiko.right import g\n\n\ndef f():\n    return g()\n",
            "sashiko/right.py": "from sashiko.left import f\n\n\ndef g():\n    return f()\n",
        }
        self.assertIn("L16", [fault[0] for fault in faults({**own_sources(), **ring})])


if __name__ == "__main__":
    unittest.main()
