"""The fewest slots for a pace [10]."""

import random
import unittest

from helping import Helping
from loopstow.deeds import Do, Make, Use
from loopstow.errors import NoLoop, StowError, TooMany, TwoLoops
from loopstow.pace import pace
from loopstow.prices import Prices
from loopstow.programs import Program
from loopstow.slots import fewest_slots
from loopstow.tasks import Task
from plainly import drawn_prices, drawn_program


def turns():
    return Program(loop=[Use("a"), Use("b"), Use("c")], given=["a", "b", "c"])


class Slots(Helping, unittest.TestCase):
    def test_document(self):
        self.same([fewest_slots(turns(), Prices(1, 1), (6, 4)), fewest_slots(turns(), Prices(1, 1), (1, 1))], [2, 3])

    def test_at_below_and_above(self):
        """At the pace of each number of slots, just below and just above it, also in other terms."""
        source = random.Random(621)
        for index in range(60):
            program, prices = drawn_program(source, loops=1, names="abcde"), drawn_prices(source, "abcde")
            try:
                paces = {slots: pace(Task(program, slots, prices)) for slots in range(program.room, 5)}
            except TooMany:
                continue
            for q, p in paces.values():
                for other in ((q, p), (q * 7, p * 7), (q * 100 - 1, p * 100), (q * 100 + 1, p * 100), (q, p + 1), (q + 1, p)):
                    if other[0] >= 0:
                        fine = [slots for slots, (a, b) in paces.items() if a * other[1] <= other[0] * b]
                        self.same(fewest_slots(program, prices, other), min(fine, default=None))
            self.same(fewest_slots(program, prices, (10 ** 59, 1)), program.room)

    def test_names_in_turn(self):
        six = Program(loop=[Use(name) for name in "abcdef"], given="abcdef")
        for k in (1, 2, 3, 4):
            q, p = 6 * (6 - k), 5
            told = [fewest_slots(six, Prices(1, 1), pair) for pair in ((q, p), (2 * q, 2 * p), (10 * q - 1, 10 * p))]
            self.same(told, [k, k, k + 1 if k < 4 else None])
        self.same(fewest_slots(six, Prices(1, 1), (0, 1)), None)
        self.same(fewest_slots(six, Prices(0, 5), (0, 1)), 1)

    def test_room(self):
        wide = Program(loop=[Do("x", "a", "b", "c")], given=["a", "b", "c"])
        self.same([wide.room, fewest_slots(wide, Prices(1, 1), (0, 1)), fewest_slots(wide, Prices(1, 1), (9, 1))], [4, 4, 4])
        self.same(fewest_slots(Program(loop=[]), Prices(1, 1), (0, 5)), 1)
        self.same(fewest_slots(Program([Use("a", "b")], [], given=["a", "b"]), Prices(9, 9), (0, 1)), 2)

    def test_too_many_standings(self):
        """Only a number of slots that is tried is refused."""
        program = Program(loop=[Use("a"), Use("b")], given="ab", again={name: 1 for name in "cdef"}, results="cdef")
        for slots in (1, 2, 3):
            try:
                Task(program, slots)
                fine = True
            except TooMany:
                fine = False
            if fine:
                told = pace(Task(program, slots))
                self.same(fewest_slots(program, Prices(1, 1), told), slots)
        self.refused(TooMany, lambda: Task(program, 3), 600)
        self.same([fewest_slots(program, Prices(1, 1), (2, 1)), fewest_slots(program, Prices(1, 1), (0, 1))], [1, 2])
        three = Program(
            loop=[Use("a"), Use("b"), Use("c"), Make("c")], given="abc", again={name: 1 for name in "def"}, results="def",
        )
        self.refused(TooMany, lambda: Task(three, 3), 600)
        self.refused(TooMany, lambda: fewest_slots(three, Prices(1, 1), (0, 1)), 600)
        self.same(fewest_slots(three, Prices(1, 1), (9, 1)), 1)

    def test_refused(self):
        self.refused(NoLoop, lambda: fewest_slots(Program(), Prices(1, 1), (1, 1)))
        self.refused(TwoLoops, lambda: fewest_slots(Program(loop=[], second=[]), Prices(1, 1), (1, 1)))
        self.same(fewest_slots(program=turns(), prices=Prices(2, 9), pace=(3, 1)), 2)
        self.same(fewest_slots(turns(), Prices(2, 9), (299, 100)), 3)
        with self.assertRaises(StowError):
            fewest_slots(Program(given=["a"]), Prices(1, 1), (1, 1))


if __name__ == "__main__":
    unittest.main()
