"""Needed names [8]."""

import random
import unittest

from helping import Helping, strange_values
from loopstow.deeds import Do, Make, Use
from loopstow.errors import BadPlace
from loopstow.needed import needed
from loopstow.programs import Program
from plainly import drawn_program, needed_now

BOTH = (True, False)


def fall():
    return Program([Make("x"), Use("a")], [Make("x")], behind=[Use("x")], given=["a"])


class Needed(Helping, unittest.TestCase):
    def test_document(self):
        self.same(
            [needed(fall(), ("ahead", 1)), needed(fall(), ("ahead", 1), first=False), needed(fall(), ("loop", 1)),
             needed(fall(), ("loop", 1), further=False)],
            [("a",), ("a", "x"), (), ("x",)],
        )

    def test_ends_and_empty_parts(self):
        self.same(needed(Program(given=["b", "a"], results=["b", "a"]), ("ahead", 0)), ("a", "b"))
        straight = Program([Use("a")], given=["a", "b"], results=["b"])
        for place, names in (
            (("ahead", 0), ("a", "b")), (("ahead", 1), ("b",)), (("between", 0), ("b",)), (("behind", 0), ("b",)),
        ):
            for first in BOTH:
                for second in BOTH:
                    self.same(needed(straight, place, first=first, further=False, second=second), names)
        empty = Program(loop=[], behind=[Use("a")], given=["a"])
        for place in (("ahead", 0), ("loop", 0), ("behind", 0)):
            for more in BOTH:
                self.same(needed(empty, place, first=more, further=more), ("a",))
        self.same(needed(empty, ("behind", 1)), ())
        double = Program(loop=[], second=[Use("b")], behind=[Use("a")], given=["a", "b"])
        self.same(needed(double, ("loop", 0)), ("a", "b"))
        self.same(needed(double, ("loop", 0), second=False), ("a",))
        self.same(needed(double, ("second", 1)), ("a", "b"))
        self.same(needed(double, ("second", 1), further=False), ("a",))
        self.same(needed(double, ("between", 0), second=False), ("a",))

    def test_use_ahead_of_make(self):
        loop = Program(loop=[Do("s", "s", "a"), Make("a")], given=["s", "a"], results=["s"])
        self.same(needed(loop, ("loop", 0)), ("a", "s"))
        self.same(needed(loop, ("loop", 1)), ("s",))
        self.same(needed(loop, ("loop", 2)), ("a", "s"))
        self.same(needed(loop, ("loop", 2), further=False), ("s",))
        self.same(needed(Program([Make("s")], given=["s"], results=["s"]), ("ahead", 0)), ())

    def test_against_straight_forms(self):
        source = random.Random(11)
        for index in range(300):
            program = drawn_program(source, loops=index % 3)
            for place in program.places():
                for first in BOTH:
                    for further in BOTH:
                        for second in BOTH:
                            got = needed(program, place, first=first, further=further, second=second)
                            self.same(got, self.by_straight(program, place, first, further, second))

    def by_straight(self, program, place, first, further, second):
        """The needed names by straight forms with few and with more rounds, which agree."""
        part, index = place
        loop, between = program.loop or (), program.between
        found = []
        for more in (1, 3):
            n = (more if first else 0) if part == "ahead" else (1 + more if further else 1)
            m = (1 + more if further else 1) if part == "second" else (more if second else 0)
            n, m = n if program.loop is not None else 0, m if program.second is not None else 0
            at = index
            if part != "ahead":
                at += len(program.ahead)
            if part in ("between", "second", "behind"):
                at += n * len(loop)
            if part in ("second", "behind"):
                at += len(between)
            if part == "behind":
                at += m * len(program.second or ())
            found.append(needed_now(program.straight(n, m).ahead, program.results, at))
        self.assertEqual(found[0], found[1])
        return found[0]

    def test_not_asked(self):
        source = random.Random(12)
        for index in range(60):
            program = drawn_program(source, loops=index % 3)
            for place in program.places():
                names = needed(program, place)
                if place[0] != "ahead":
                    self.same(needed(program, place, first=False), names)
                if place[0] not in ("loop", "second"):
                    self.same(needed(program, place, further=False), names)
                if place[0] in ("second", "behind") or program.second is None:
                    self.same(needed(program, place, second=False), names)

    def test_refused(self):
        for place in [
            *strange_values(), ("ahead", 3), ("loop", 2), ("second", 0), ("ahead", -1), ("ahead", True), ["ahead", 0],
            ("ahead", 0, 0), (0, "ahead"), ("head", 0), ("loop", "0"), (("loop",), 0), ("behind", 2), ("between", 1),
        ]:
            self.refused(BadPlace, lambda: needed(fall(), place), place)
        self.refused(BadPlace, lambda: needed(Program(), ("loop", 0)), ("loop", 0))
        self.same(needed(Program(), ("between", 0)), ())


if __name__ == "__main__":
    unittest.main()
