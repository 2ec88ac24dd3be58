"""The rules of the language that can be told mechanically."""

import os
import tempfile
import unittest

import language

GIVEN = "class C:\n    'd'\n\n    def __init__(self):\n        self.n = 1\n\n\nclass D:\n    'd'\n\n"
HERE = os.path.dirname(os.path.abspath(__file__))


class Language(unittest.TestCase):
    def test_package(self):
        self.assertEqual(language.faults(os.path.join(os.path.dirname(HERE), "loopstow")), [])

    def test_the_checker_finds_faults(self):
        for rule, text in (
            ("L5", "def f(xs):\n    'd'\n    return sorted(xs)\n"),
            ("L5", "def f(xs, k):\n    'd'\n    k += len(xs)\n    return k\n"),
            ("L6/L7", "def f(xs):\n    'd'\n    return any(x for x in xs)\n"),
            ("L6/L7", "def f(x):\n    'd'\n    return x / 2\n"),
            ("L8", "def f(x):\n    'd'\n    return hash(x)\n"),
            ("L3", "ROWS = [1] + [2]\n"),
            ("L2", "import os\n"),
            ("L23", "def f(x):\n    'd'\n    row = zip(x, x)\n    return row\n"),
            ("L23", "def f(xs):\n    'd'\n    for x in xs:\n        xs[x] = 1\n"),
            ("L23", "def f(xs):\n    'd'\n    for at, x in enumerate(xs):\n        xs.append(at)\n"),
            ("L24", "def f(x):\n    'd'\n    return set(x)\n"),
            ("L25", "def f(x):\n    'd'\n    return x.hex()\n"),
            ("L5", GIVEN + "    @property\n    def n(self):\n        'd'\n        return 1\n"),
            ("L18", "class C:\n    'd'\n\n\ndef f():\n    'd'\n    return [C]\n"),
            ("L19", "def f(x):\n    'd'\n    try:\n        return x[0]\n    except TypeError:\n        return 0\n"),
            ("L12", "def f(x):\n    'd'\n    return x.__name__\n"),
            ("L12", "def f(x):\n    'd'\n    return x.__class__\n"),
            ("L27", "def f(x):\n    'd'\n    return f'{x.__class__.__name__}'\n"),
            ("L20", "def f(x, y):\n    'd'\n    return x is y\n"),
        ):
            with tempfile.TemporaryDirectory() as folder:
                package = os.path.join(folder, "pack")
                os.mkdir(package)
                with open(os.path.join(package, "one.py"), "w", encoding="utf-8") as file:
                    file.write(text)
                self.assertIn(rule, [fault.split()[0] for fault in language.faults(package)], text)

    def test_a_setter_in_each_class(self):
        setter = "\n    @n.setter\n    def n(self, value):\n        raise AttributeError('n')\n"
        for end, found in ((setter, []), (setter + "\n\nclass E:\n    'd'\n\n", ["one.py:5"])):
            text = GIVEN + "    @property\n    def n(self):\n        'd'\n        return 1\n" + end
            if found:
                text += "    @property\n    def n(self):\n        'd'\n        return 2\n"
            with tempfile.TemporaryDirectory() as folder:
                with open(os.path.join(folder, "one.py"), "w", encoding="utf-8") as file:
                    file.write(text)
                told = [fault.split()[1] for fault in language.faults(folder) if "has a setter" in fault]
                self.assertEqual(told, found)

    def told(self, text):
        """The classes and methods, or lines, of which the checker tells that they change something."""
        with tempfile.TemporaryDirectory() as folder:
            with open(os.path.join(folder, "one.py"), "w", encoding="utf-8") as file:
                file.write(text)
            return [
                fault.split(" ", 2)[2] for fault in language.faults(folder)
                if fault.startswith("L5 ") and ("gives" in fault or "changes" in fault or "calls" in fault)
            ]

    def test_what_properties_and_operators_run(self):
        box = "class Box:\n    'd'\n\n    def __init__(self, n):\n        self.n = n\n\n\n"
        own = "class Own:\n    'd'\n\n    def __init__(self, n):\n        self._n = n\n\n"
        own += "    @property\n    def n(self):\n        'd'\n        return self._n\n\n"
        own += "    @n.setter\n    def n(self, value):\n        self._n = value\n\n"
        gives = "__init__ gives n, which may run a setter"
        for row, call in (("    def __or__(self, other):", "__or__"), ("    @property\n    def m(self):\n        'd'", "m")):
            for end, why in (
                ("        return Box(1)\n", [gives]),
                ("        return made(self)\n\n\ndef made(x):\n    'd'\n    return [Box(x)]\n", [gives]),
                ("        return Own(1)\n", []),
                ("        self._n = 2\n", [f"{call} changes _n"]),
                ("        return self.grown()\n\n    def grown(self):\n        'd'\n        self._n = 2\n",
                 ["grown changes _n"]),
                ("        return made(self, [])\n\n\ndef made(x, xs):\n    'd'\n    xs.append(x)\n", ["made changes xs"]),
                ("        return made(self, [])\n\n\ndef made(x, xs):\n    'd'\n    xs[0] = x\n",
                 ["made changes an item of xs"]),
                ("        return made(self)\n\n\ndef made(x):\n    'd'\n    xs = []\n    xs.append(x)\n    return xs\n", []),
                ("        return made(self)\n\n\ndef made(x):\n    'd'\n    return x(1)\n", ["made calls x"]),
            ):
                told = self.told(box + own + row + "\n" + end)
                self.assertEqual(told, [f"{call}: {one}" for one in why], end)
        self.assertEqual(self.told(box.replace("n", "k") + own + "    def __or__(self, other):\n        return Box(1)\n"), [])
        shown = "    def __str__(self):\n        return f'{Box(1)}'\n"
        self.assertEqual(self.told(box + own + shown), [f"__str__: {gives}"])
        quiet = "    def grown(self):\n        'd'\n        self._n = 2\n        return Box(1)\n"
        self.assertEqual(self.told(box + own + quiet), [])


if __name__ == "__main__":
    unittest.main()
