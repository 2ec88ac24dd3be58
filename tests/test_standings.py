"""Standings [6]."""

import unittest

from helping import Helping, strange_values
from loopstow.errors import BadName, BadStanding, Twice
from loopstow.standings import Standing

SIDES = ([], ["a"], ["b"], ["a", "b"])


class Standings(Helping, unittest.TestCase):
    def test_fields(self):
        standing = Standing(("c", "a"), ["b", "a"])
        self.same([standing.slots, standing.stored, standing.names], [("a", "c"), ("a", "b"), ("a", "b", "c")])
        for name in ("slots", "stored", "names"):
            self.assertIsInstance(vars(Standing)[name], property)
            with self.assertRaises(AttributeError):
                setattr(standing, name, ("b",))
        self.same([standing.slots, standing.stored, standing.names], [("a", "c"), ("a", "b"), ("a", "b", "c")])
        self.same([Standing().slots, Standing().stored, Standing().names], [(), (), ()])
        self.same(Standing(stored=["ab", "a", "b"]).stored, ("a", "ab", "b"))
        self.same(len(Standing([letter for letter in "abcdefghijklmnopqrstuvwxyz"]).slots), 26)
        for name in ("only", "read", "__contains__", "__le__", "__ge__", "__or__", "__eq__", "__str__"):
            self.assertIn(name, vars(Standing))

    def test_later_changes(self):
        slots = ["a"]
        standing = Standing(slots, slots)
        slots.append("b")
        self.same(str(standing), "a / a")

    def test_texts(self):
        for standing, text in (
            (Standing(["c", "a"], ["b", "a"]), "a c / a b"), (Standing([], ["a"]), "- / a"), (Standing(), "- / -"),
            (Standing(["a"]), "a / -"), (Standing(["abcdef", "load"], ["use"]), "abcdef load / use"),
        ):
            self.same(str(standing), text)
            self.assertEqual(Standing.read(text), standing)
        for value in [
            *strange_values(), "-", "/", "a", "a /", "/ a", " / ", "a / ", " / a", "a/b", "- / - ", " - / -", "b a / -",
            "- / b a", "a a / -", "a / b b", "A / -", "- / a1", "a  b / -", "a - / -", "- - / -", "a / b / c", "-/-",
            "a / b\n", "-  / a", "a / abcdefg", "a / - b",
        ]:
            self.refused(BadStanding, lambda: Standing.read(value), value)

    def test_no_names(self):
        for value in strange_values():
            self.refused(BadName, lambda: Standing(["a", "a", value, 7], [8]), value)
            self.refused(BadName, lambda: Standing(["a", "a"], ("b", "b", value, 7)), value)
        self.refused(Twice, lambda: Standing(["b", "a", "b", "a"], ["c", "c"]), "b")
        self.refused(Twice, lambda: Standing(["b", "a"], ["c", "a", "b", "a", "c"]), "a")

    def test_contains(self):
        standing = Standing(["a"], ["b"])
        self.same(["a" in standing, "b" in standing, "c" in standing, "ab" in standing], [True, True, False, False])
        for value in strange_values():
            self.same(value in standing, False)

    def test_at_least_as_good(self):
        for slots in SIDES:
            for stored in SIDES:
                for other_slots in SIDES:
                    for other_stored in SIDES:
                        one, other = Standing(slots, stored), Standing(other_slots, other_stored)
                        wanted = set(slots) <= set(other_slots) and set(stored) <= set(other_stored)
                        self.same([one <= other, other >= one], [wanted, wanted])
                        both = one | other
                        self.same(
                            [both.slots, both.stored],
                            [tuple(sorted({*slots, *other_slots})), tuple(sorted({*stored, *other_stored}))],
                        )
                        same = slots == other_slots and stored == other_stored
                        self.same([one == other, one != other], [same, not same])
        with self.assertRaises(TypeError):
            Standing() <= "- / -"
        with self.assertRaises(TypeError):
            Standing() >= "- / -"

    def test_only(self):
        standing = Standing(["a", "b", "c"], ["b", "d"])
        for names, text in (
            ([], "- / -"), (("b",), "b / b"), (["d", "a", "x"], "a / d"), (["d", "c", "b", "a"], "a b c / b d"),
        ):
            self.same(str(standing.only(names)), text)
        self.same(str(standing), "a b c / b d")

    def test_equals_nothing_else(self):
        for value in [*strange_values(), "a / -", (("a",), ())]:
            if not isinstance(value, Standing):
                self.same([Standing(["a"]) == value, value == Standing(["a"])], [False, False])


if __name__ == "__main__":
    unittest.main()
