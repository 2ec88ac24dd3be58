"""The rules of the language that can be told mechanically."""

import os
import tempfile
import unittest

import language

HERE = os.path.dirname(os.path.abspath(__file__))


class Language(unittest.TestCase):
    def test_package(self):
        self.assertEqual(language.faults(os.path.join(os.path.dirname(HERE), "loopstow")), [])

    def test_the_checker_finds_faults(self):
        for rule, text in (
            ("L5", "def f(xs):\n    'd'\n    return sorted(xs)\n"),
            ("L5", "def f(xs, k):\n    'd'\n    k += len(xs)\n    return k\n"),
            ("L6/L7", "def f(xs):\n    'd'\n    return any(x for x in xs)\n"),
            ("L6/L7", "def f(x):\n    'd'\n    return x / 2\n"),
            ("L8", "def f(x):\n    'd'\n    return hash(x)\n"),
            ("L3", "ROWS = [1] + [2]\n"),
            ("L2", "import os\n"),
            ("L23", "def f(x):\n    'd'\n    row = zip(x, x)\n    return row\n"),
            ("L24", "def f(x):\n    'd'\n    return set(x)\n"),
            ("L25", "def f(x):\n    'd'\n    return x.hex()\n"),
            ("L18", "class C:\n    'd'\n\n\ndef f():\n    'd'\n    return [C]\n"),
            ("L19", "def f(x):\n    'd'\n    try:\n        return x[0]\n    except TypeError:\n        return 0\n"),
            ("L20", "def f(x, y):\n    'd'\n    return x is y\n"),
        ):
            with tempfile.TemporaryDirectory() as folder:
                package = os.path.join(folder, "pack")
                os.mkdir(package)
                with open(os.path.join(package, "one.py"), "w", encoding="utf-8") as file:
                    file.write(text)
                self.assertIn(rule, [fault.split()[0] for fault in language.faults(package)], text)


if __name__ == "__main__":
    unittest.main()
