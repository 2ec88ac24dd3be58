"""Tables of one loop, and their turn [9]."""

import inspect
import random
import unittest

from helping import Helping, strange_values
from loopstow.courses import Course
from loopstow.deeds import Do, Make, Use
from loopstow.errors import BadNumber, NoLoop, StowError, TooMany, TwoLoops
from loopstow.loops import row
from loopstow.papers import paper
from loopstow.prices import Prices
from loopstow.programs import Program
from loopstow.straight import least_price
from loopstow.tables import table, to_go, turn
from loopstow.tasks import Task
from plainly import all_reached, at_least, drawn_task, late_tasks, to_the_end


def one():
    return Task(Program(loop=[Use("a"), Use("b")], given=["a", "b"]), 1)


class Tables(Helping, unittest.TestCase):
    def test_document(self):
        self.same(
            [table(one(), 1)["b / a b"], table(one(), 1)["a / a b"], to_go(one())["a / a b"], turn(one())],
            [2, 3, 1, (1, 1, 2)],
        )

    def test_against_a_search(self):
        source = random.Random(71)
        for _ in range(60):
            task = drawn_task(source, loops=1, names="abc")
            sound = list(task.standings(("loop", 0)))
            for r in (0, 1, 2, 5):
                reached = all_reached(task, None, (*task.program.ahead, *task.program.loop * r))[-1]
                self.same(table(task, r), {str(standing): at_least(reached, standing) for standing in sound})
            deeds = (*task.program.loop, *task.program.behind)
            self.same(to_go(task), {str(standing): to_the_end(task, standing, deeds) for standing in sound})

    def test_turn_is_the_least_one(self):
        source = random.Random(72)
        for index in range(150):
            task = drawn_task(source, loops=1, names="abcd" if index % 2 else "abc", most=6)
            s, p, q = turn(task)
            rows = [table(task, r) for r in range(s + 2 * p + 2)]
            for r in range(s, len(rows) - p):
                self.same(rows[r + p], {text: number + q for text, number in rows[r].items()})
            shapes = [sorted((text, number - min(one.values())) for text, number in one.items()) for one in rows]
            for r in range(s + p):
                self.assertNotIn(shapes[r], shapes[:r])
            self.assertIn(shapes[s + p], shapes[:s + p])

    def test_far_rounds(self):
        """Tables far out are those that the rounds lead to one after another."""
        source = random.Random(73)
        for index in range(20):
            task = drawn_task(source, loops=1, names="abc", most=4)
            s, p, q = turn(task)
            far = table(task, 400)
            near = table(task, s + (400 - s) % p)
            turns = (400 - s) // p
            self.same(far, {text: number + turns * q for text, number in near.items()})
        task = Task(Program(loop=[Use("a"), Use("b"), Use("c")], given=["a", "b", "c"]), 2)
        self.same([table(task, 400)["c / a b c"], table(task, 399)["b c / a b c"]], [601, 600])

    def test_least_prices(self):
        source = random.Random(74)
        for _ in range(40):
            task = drawn_task(source, loops=1, names="abc")
            ends = to_go(task)
            for n in (1, 2, 3, 7):
                begun = table(task, n - 1)
                self.same(min(begun[text] + ends[text] for text in ends), least_price(task, n))

    def test_empty_loop(self):
        for ahead, behind, prices in (([], [], None), ([Use("a")], [Use("a")], Prices(3, 2))):
            task = Task(Program(ahead, [], behind=behind, given=["a"], results=["a"]), 1, prices)
            self.same(turn(task), (0, 1, 0))
            self.same(turn(task, 1), (0, 1, 0))
            for r in (0, 1, 400):
                self.same(table(task, r), table(task, 0))
            self.same(sorted(table(task, 0)), ["- / a", "a / -", "a / a"])

    def test_rounds_that_are_refused(self):
        self.same(table(one(), 400)["b / a b"], 800)
        self.same(table(one(), 0)["b / a b"], 1)
        for value in [*strange_values(), 401, 10 ** 59]:
            self.refused(BadNumber, lambda: table(one(), value), value)
        straight, double = Task(Program(), 1), Task(Program(loop=[], second=[]), 1)
        for value in (None, -1, 401, 0):
            self.refused(NoLoop, lambda: table(straight, value))
            self.refused(TwoLoops, lambda: table(double, value))
        for call in (to_go, turn, lambda task: turn(task, 1)):
            self.refused(NoLoop, lambda: call(straight))
            self.refused(TwoLoops, lambda: call(double))

    def test_most(self):
        self.same([turn(one(), 2), turn(task=one(), most=400)], [(1, 1, 2), (1, 1, 2)])
        self.refused(TooMany, lambda: turn(one(), 1), 1)
        source = random.Random(75)
        for index in range(40):
            task = drawn_task(source, loops=1, names="abcd", most=6)
            s, p, q = turn(task)
            self.same(turn(task, s + p), (s, p, q))
            if s + p > 1:
                self.refused(TooMany, lambda: turn(task, s + p - 1), s + p - 1)

    def test_most_as_a_rule(self):
        for call in (turn, row, paper, Course):
            self.same(inspect.signature(call).parameters["most"].default, 120)

    def test_late_turns(self):
        for task, told in late_tasks():
            s, p, _ = told
            self.same([turn(task, 400), turn(task, s + p)], [told, told])
            self.refused(TooMany, lambda: turn(task, s + p - 1), s + p - 1)
            if s + p > 120:
                self.refused(TooMany, lambda: turn(task), 120)

    def test_large(self):
        """24 deeds, six names, four slots."""
        source = random.Random(76)
        for _ in range(3):
            loop = []
            while len(loop) < 24:
                deed = source.choice([
                    Use(*source.sample("abcdef", source.choice((1, 2, 3)))), Make(source.choice("abcdef")),
                    Do(source.choice("abcdef"), *source.sample("abcdef", 2)),
                ])
                loop.append(deed)
            task = Task(Program(loop=loop, given="abcdef", results="abcdef"), 4, Prices(3, 5))
            s, p, q = turn(task, 400)
            near = table(task, 400 - p)
            self.same(table(task, 400), {text: number + q for text, number in near.items()})

    def test_later_slots(self):
        task = one()
        before = table(task, 3)
        task.slots = 2
        self.assertNotEqual(table(task, 3), before)
        with self.assertRaises(StowError):
            table(task, "3")


if __name__ == "__main__":
    unittest.main()
