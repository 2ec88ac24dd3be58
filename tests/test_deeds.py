"""Deeds [3]."""

import unittest

from helping import Helping, strange_values
from loopstow.deeds import Deed, Do, Make, Use
from loopstow.errors import BadDeed, BadName, TooMany, Twice


class Deeds(Helping, unittest.TestCase):
    def test_document(self):
        self.same(
            [str(Do("s", "s", "a")), Do("s", "s", "a").room, Do("s", "a").room, Use("b", "a").names,
             isinstance(Do("s", "a"), Make)],
            ["do s s a", 2, 2, ("a", "b"), True],
        )
        self.refused(BadDeed, lambda: Deed.read("use a a"), "use a a")

    def test_classes(self):
        self.assertEqual(Use.__bases__, (Deed,))
        self.assertEqual(Make.__bases__, (Deed,))
        self.assertEqual(Do.__bases__, (Use, Make))
        self.same([Deed.MOST, Use("a").MOST], [3, 3])
        for name in ("read", "room", "__eq__", "__str__"):
            self.assertIn(name, vars(Deed))
        self.assertIsInstance(vars(Deed)["room"], property)
        self.assertIsInstance(vars(Deed)["read"], classmethod)

    def test_fields(self):
        for deed, uses, makes, names, room, text in (
            (Use("c", "a", "b"), ("c", "a", "b"), None, ("a", "b", "c"), 3, "use c a b"),
            (Use("abcdef"), ("abcdef",), None, ("abcdef",), 1, "use abcdef"),
            (Make("x"), (), "x", ("x",), 1, "make x"),
            (Do("x", "b", "a", "c"), ("b", "a", "c"), "x", ("a", "b", "c", "x"), 4, "do x b a c"),
            (Do("x", "x"), ("x",), "x", ("x",), 1, "do x x"),
            (Do("b", "c", "b"), ("c", "b"), "b", ("b", "c"), 2, "do b c b"),
            (Use("use"), ("use",), None, ("use",), 1, "use use"),
            (Do("do", "make", "use"), ("make", "use"), "do", ("do", "make", "use"), 3, "do do make use"),
        ):
            self.same([deed.uses, deed.makes, deed.names, deed.room, str(deed)], [uses, makes, names, room, text])
            self.assertLessEqual({"uses", "makes"}, set(vars(deed)))
            with self.assertRaises(AttributeError):
                deed.names = ("b",)
            again = Deed.read(text)
            self.assertIs(again.__class__, deed.__class__)
            self.assertEqual(again, deed)

    def test_equal(self):
        deeds = [Use("a"), Use("a", "b"), Use("b", "a"), Make("a"), Do("a", "a"), Do("a", "b"), Do("b", "a")]
        for index, one in enumerate(deeds):
            for other_index, other in enumerate(deeds):
                self.same(one == Deed.read(str(other)), index == other_index)
                self.same(one != other, index != other_index)
            for value in (None, str(one), one.uses, 1):
                self.same(one == value, False)

    def test_no_name(self):
        for value in strange_values():
            for call in (
                lambda: Use(value), lambda: Use("a", "a", "b", "c", value), lambda: Make(value), lambda: Do(value),
                lambda: Do("a", "b", "b", value), lambda: Do(value, None), lambda: Use(value, 7),
            ):
                self.refused(BadName, call, value)

    def test_twice_and_too_many(self):
        self.refused(Twice, lambda: Use("a", "b", "c", "b", "a"), "b")
        self.refused(Twice, lambda: Do("x", "a", "a"), "a")
        self.refused(Twice, lambda: Use("a", "b", "c", "d", "d"), "d")
        self.refused(TooMany, lambda: Use("a", "b", "c", "d"), 3)
        self.refused(TooMany, lambda: Do("a", "a", "b", "c", "d"), 3)
        self.refused(BadDeed, lambda: Use(), None)
        self.refused(BadDeed, lambda: Do("a"), None)

    def test_read(self):
        for value in [
            *strange_values(), "use", "make", "do", "do x", "use ", "make a b", "make a ", " use a", "use a ", "use A",
            "use a b c d", "do x a b c d", "do x a a", "do X a", "Use a", "a", "use a\n", "load a", "use  a", "x a",
        ]:
            self.refused(BadDeed, lambda: Deed.read(value), value)


if __name__ == "__main__":
    unittest.main()
