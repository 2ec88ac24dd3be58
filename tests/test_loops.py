"""Rows of least prices [9, 10]."""

import random
import unittest
from math import gcd

from helping import Helping
from loopstow.deeds import Make, Use
from loopstow.errors import NoLoop, TooMany, TwoLoops
from loopstow.loops import row
from loopstow.prices import Prices
from loopstow.programs import Program
from loopstow.rows import Row
from loopstow.straight import least_price
from loopstow.tables import turn
from loopstow.tasks import Task
from plainly import drawn_task, late_tasks, plain_least


def in_turn(names, slots, prices=None):
    return Task(Program(loop=[Use(name) for name in names], given=list(names)), slots, prices)


class Rows(Helping, unittest.TestCase):
    def test_document(self):
        fall = Program([Make("x"), Use("a")], [Make("x")], behind=[Use("x")], given=["a"])
        carried = Program(loop=[Use("b"), Use("a"), Make("b")], given=["a", "b"])
        self.same(str(row(in_turn("ab", 1))), "| 0 + 2")
        self.same(
            [str(row(in_turn("abc", 2))), str(row(in_turn("abcd", 2))), str(row(Task(fall, 1, Prices(1, 9))))],
            ["0 | 3 4 + 3", "0 | 4 6 9 + 8", "11 | 1 + 0"],
        )
        self.same([str(row(Task(carried, 1))), row(in_turn("abcd", 2))[10 ** 20]], ["0 | 2 + 1", 266666666666666666668])

    def test_against_straight_forms(self):
        source = random.Random(81)
        for index in range(200):
            task = drawn_task(source, loops=1, names="abcd" if index % 2 else "abc", most=5)
            found = row(task)
            self.assertIsInstance(found, Row)
            far = min(found.start + 3 * found.period + 2, 30)
            self.same(list(found.numbers(far)), [least_price(task, n) for n in range(far)])

    def test_against_a_search(self):
        source = random.Random(82)
        for _ in range(40):
            task = drawn_task(source, loops=1, names="abc", most=3)
            self.same(list(row(task).numbers(5)), [plain_least(task, n) for n in range(5)])

    def test_form(self):
        """The row goes on by a period that divides that of the turn, from s + 1 at the latest."""
        source = random.Random(83)
        for _ in range(100):
            task = drawn_task(source, loops=1, names="abcd", most=6)
            s, p, q = turn(task)
            found = row(task)
            self.assertLessEqual(found.start, s + 1)
            self.same([p % found.period, found.step * (p // found.period)], [0, q])

    def test_names_in_turn(self):
        for m in range(2, 7):
            for k in range(1, min(m, 5)):
                shared = gcd(m * (m - k), m - 1)
                self.same(row(in_turn("abcdef"[:m], k)).pace, (m * (m - k) // shared, (m - 1) // shared))

    def test_facts(self):
        source = random.Random(84)
        for _ in range(60):
            task = drawn_task(source, loops=1, names="abc", most=4)
            program, found = task.program, row(task)
            other = lambda told: row(Task(told, task.slots, task.prices), 400)
            j = source.randrange(len(program.loop) + 1)
            self.assertEqual(other(program ** 2), found.every(2))
            self.assertEqual(other(program ** 3), found.every(3))
            self.assertEqual(other(program.unrolled(1)), found >> 1)
            self.assertEqual(other(program.unrolled(2)), found >> 2)
            self.assertEqual(other(program.turned(j)), found >> 1)
            if task.slots < 4:
                self.assertTrue(row(task.with_slots(task.slots + 1)) <= found)

    def test_refused(self):
        self.refused(NoLoop, lambda: row(Task(Program(), 1)))
        self.refused(TwoLoops, lambda: row(Task(Program(loop=[], second=[]), 1)))
        self.same(str(row(in_turn("abc", 2), 3)), "0 | 3 4 + 3")
        for most in (1, 2):
            self.refused(TooMany, lambda: row(in_turn("abc", 2), most), most)
        self.same(turn(in_turn("abc", 2)), (1, 2, 3))

    def test_empty_loop(self):
        task = Task(Program([Use("a")], [], behind=[Use("b"), Make("a")], given=["a", "b"], results=["a"]), 1)
        self.same(str(row(task, 1)), "| 3 + 0")

    def test_late_turns(self):
        for task, (s, p, q) in late_tasks():
            found = row(task, s + p)
            self.refused(TooMany, lambda: row(task, s + p - 1), s + p - 1)
            outside = len(task.program.ahead) + len(task.program.behind)
            far = min(s + p + 1, (200 - outside) // len(task.program.loop))
            for n in (0, 1, 2, far // 2, far - 1, far):
                self.same(found[n], least_price(task, n))
            self.same(found[10 ** 59 + p] - found[10 ** 59], q)


if __name__ == "__main__":
    unittest.main()
