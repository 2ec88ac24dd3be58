"""The pace of a loop [10], and the papers that show it."""

import random
import unittest
from math import gcd

from helping import Helping, strange_values
from loopstow.deeds import Make, Use
from loopstow.errors import NoLoop, TooMany, TwoLoops
from loopstow.loops import row
from loopstow.pace import pace, pace_paper, shows_pace
from loopstow.prices import Prices
from loopstow.programs import Program
from loopstow.rows import Row
from loopstow.tasks import Task
from plainlook import Look, changed_at, part_at, places_in, spoiled
from plainly import drawn_task, late_tasks, long_endings


def in_turn(names, slots, prices=None):
    return Task(Program(loop=[Use(name) for name in names], given=list(names)), slots, prices)


class Paces(Helping, unittest.TestCase):
    def test_document(self):
        task, four = in_turn("abc", 2), in_turn("abcd", 2)
        self.same(
            [pace(task), pace(four), shows_pace(task, (3, 2), pace_paper(task)), shows_pace(task, (1, 1), pace_paper(task))],
            [(3, 2), (8, 3), True, False],
        )

    def test_against_rows(self):
        source = random.Random(311)
        for index in range(150):
            task = drawn_task(source, loops=1, names="abcde" if index % 2 else "abc", most=6)
            try:
                told = row(task, 400).pace
            except TooMany:
                continue
            self.same(pace(task), told)
            self.same(shows_pace(task, told, pace_paper(task)), True)
        for task, (_, p, q) in late_tasks():
            self.same(pace(task), (q // gcd(q, p), p // gcd(q, p)))
        for task in long_endings():
            self.same(shows_pace(task, pace(task), pace_paper(task)), True)

    def test_names_in_turn(self):
        for m in range(2, 7):
            for k in range(1, min(m, 5)):
                shared = gcd(m * (m - k), m - 1)
                task = in_turn("abcdef"[:m], k)
                self.same(pace(task), (m * (m - k) // shared, (m - 1) // shared))
                self.same(shows_pace(task, pace(task), pace_paper(task)), True)
        self.same([pace(in_turn("abc", 3)), pace(in_turn("abc", 2, Prices(0, 9)))], [(0, 1), (0, 1)])

    def test_form(self):
        source = random.Random(312)
        for _ in range(60):
            task = drawn_task(source, loops=1, names="abc", most=4)
            sheet = pace_paper(task)
            self.same([sheet.__class__, len(sheet), sheet[0].__class__, sheet[1].__class__], [tuple, 2, tuple, list])
            self.same(Look(task).shows_pace(pace(task), sheet), True)
            self.same(pace_paper(task), sheet)

    def test_spoiled_papers(self):
        source = random.Random(313)
        shown = 0
        for _ in range(40):
            task = drawn_task(source, loops=1, names=source.choice(["ab", "abc"]), most=3)
            look, sheet, told = Look(task), pace_paper(task), pace(task)
            for _ in range(20):
                bad = spoiled(source, sheet)
                self.same(shows_pace(task, told, bad), look.shows_pace(told, bad))
                shown += shows_pace(task, told, bad)
            q, p = told
            for other in ((q + 1, p), (q, p + 1), (2 * q, 2 * p), (q - 1, p), (q, p - 1), (-q, -p), (p, q)):
                self.same(shows_pace(task, other, sheet), look.shows_pace(other, sheet))
        self.assertGreater(shown, 0)

    def test_each_number(self):
        """Numbers that are much greater or less."""
        task = in_turn("abc", 2)
        sheet, look = pace_paper(task), Look(task)
        found = []
        for at, table in enumerate(sheet[1]):
            for text in table:
                for more in (100, -100, 1, -1):
                    bad = changed_at(sheet, (1, at, text), table[text] + more)
                    found.append((more, shows_pace(task, (3, 2), bad)))
                    self.same(found[-1][1], look.shows_pace((3, 2), bad))
        self.assertNotIn((-100, True), found)
        self.assertIn((100, False), found)
        raised = (sheet[0], [{text: number + 7 for text, number in table.items()} for table in sheet[1]])
        self.same(shows_pace(task, (3, 2), raised), True)

    def test_each_kind(self):
        task = in_turn("abc", 2)
        sheet = pace_paper(task)
        for path in places_in(sheet):
            part = part_at(sheet, path)
            bad = [None, True, 0.5]
            if isinstance(part, tuple):
                bad = [list(part), None, 0]
            elif isinstance(part, list):
                bad = [tuple(part), part[1:], [*part, part[0]], {}]
            elif isinstance(part, dict):
                key = sorted(part)[0]
                less = {text: part[text] for text in part if text != key}
                bad = [less, {**part, "": 0}, {**less, 0: 0}, list(part)]
            for value in bad:
                self.same(shows_pace(task, (3, 2), changed_at(sheet, path, value)), False)

    def test_rings_of_several_rounds(self):
        task = in_turn("abc", 2)
        ring, numbers = pace_paper(task)
        self.same(len(ring) % 2, 0)
        for other, fine in (
            (ring * 2, True), (ring[1:] + ring[:1], True), (ring[:1], False), (ring * 2 + ring[:1], False), (ring[::-1], None),
            ((), False), (list(ring), False),
        ):
            found = shows_pace(task, (3, 2), (other, numbers))
            self.same(found, Look(task).shows_pace((3, 2), (other, numbers)))
            if fine is not None:
                self.same(found, fine)
        # One name stays, the other two take turns: a ring of one round that costs 2.
        alone = (("a / a b c", ((), ("load b",), ("forget b", "load c"))),)
        self.same(shows_pace(task, (2, 1), (alone, numbers)), False)
        back = (("a / a b c", ((), ("load b",), ("forget b", "load c", "forget c"))),)
        self.same(shows_pace(task, (2, 1), (back, numbers)), False)
        # At a pace of 2 the ring would do, but no numbers show that there is no lesser one.
        self.same(Look(task).is_ring(alone, 2, 1), True)

    def test_moves_of_a_ring(self):
        program = Program(loop=[Use("a"), Make("x")], behind=[Use("b")], given=["a", "b"])
        task = Task(program, 2, Prices(1, 1))
        self.same(pace(task), (0, 1))
        _, numbers = pace_paper(task)
        for rows, fine in (
            (((), ()), True), (((), ("forget x",)), False), (((), ("store x",)), False), (("load b",), False),
            (((), (), ()), False), ((("load a",), ()), False), (((), ("use a",)), False), ((("forget a", "load a"), ()), False),
            (((), [""]), False), (((), ("again a",)), False),
        ):
            sheet = ((("a / a b", rows),), numbers)
            self.same([shows_pace(task, (0, 1), sheet), Look(task).shows_pace((0, 1), sheet)], [fine, fine])
        for text, fine in (("a / a b", True), ("a / a", False), ("a b / a b", False), ("a /  a b", False), ("x / a b", False)):
            self.same(shows_pace(task, (0, 1), (((text, ((), ())),), numbers)), fine)

    def test_pace_of_nothing(self):
        for program in (
            Program(loop=[]), Program([Use("a")], [], behind=[Use("a")], given=["a"]), Program(loop=[Make("x")]),
        ):
            task = Task(program, 1, Prices(3, 2))
            sheet = pace_paper(task)
            self.same([pace(task), shows_pace(task, (0, 1), sheet), len(sheet[1])], [(0, 1), True, 1])
            for other in ((0, 2), (0, 0), (1, 1), (0, -1), (-1, 1)):
                self.same(shows_pace(task, other, sheet), False)
        empty = Task(Program([Use("a")], [], behind=[Use("a")], given=["a"]), 1)
        ring, numbers = pace_paper(empty)
        self.same(sorted(numbers[0]), ["- / a", "a / -", "a / a"])
        self.same([rows for _, rows in ring], [()] * len(ring))
        for text, fine in (("- / a", True), ("a / a", True), ("a / b", False)):
            self.same(shows_pace(empty, (0, 1), (((text, ()),), numbers)), fine)
        both = (("a / a", ()), ("- / a", ()))
        self.same(shows_pace(empty, (0, 1), (both, numbers)), False)
        self.same(shows_pace(empty, (0, 1), ((("- / a", ((),)),), numbers)), False)
        self.same(shows_pace(empty, (0, 1), (ring, numbers * 2)), False)
        self.same(shows_pace(empty, (0, 1), (ring, [])), False)

    def test_other_terms(self):
        """A pair is the pace in lowest terms alone, whatever the paper says."""
        task = in_turn("abc", 2)
        ring, numbers = pace_paper(task)
        doubled = [{text: 2 * number for text, number in table.items()} for table in numbers]
        self.same([shows_pace(task, (6, 4), (ring, doubled)), shows_pace(task, (3, 2), (ring, doubled))], [False, False])
        for value in [*strange_values(), (3, 2, 1), [3, 2], (3.0, 2), (True, 2), (3, True), (3, None), (3, "2"), (None, 2)]:
            self.same(shows_pace(task, value, (ring, numbers)), False)
            self.same(shows_pace(task, (3, 2), value), False)
            self.same(shows_pace(task, (3, 2), (ring, value)), False)
            self.same(shows_pace(task, (3, 2), (value, numbers)), False)

    def test_true_is_not_one(self):
        for slots, told in ((1, (2, 1)), (2, (0, 1))):
            task = in_turn("ab", slots)
            sheet = pace_paper(task)
            self.same([pace(task), shows_pace(task, told, sheet)], [told, True])
            self.same([shows_pace(task, (told[0], True), sheet), shows_pace(task, (told[0], 1.0), sheet)], [False, False])
            self.same(shows_pace(task, (bool(told[0]), 1), sheet), False)

    def test_facts(self):
        source = random.Random(314)
        for _ in range(40):
            task = drawn_task(source, loops=1, names="abcd", most=5)
            q, p = pace(task)
            if task.slots < 4:
                more, rounds = pace(task.with_slots(task.slots + 1))
                self.assertLessEqual(more * p, q * rounds)
            doubled = Task(task.program ** 2, task.slots, task.prices)
            shared = gcd(2 * q, p)
            self.same(pace(doubled), (2 * q // shared, p // shared))

    def test_large(self):
        source = random.Random(315)
        loop = [Use(*source.sample("abcdef", source.choice((1, 1, 2)))) for _ in range(24)]
        task = Task(Program(loop=loop, given="abcdef", results="af"), 4, Prices(3, 5, {"a": 4, "b": 9}))
        self.same(shows_pace(task, pace(task), pace_paper(task)), True)
        self.same(pace(task), row(task, 400).pace)

    def test_refused(self):
        for call in (pace, pace_paper, lambda task: shows_pace(task, None, None)):
            self.refused(NoLoop, lambda: call(Task(Program(), 1)))
            self.refused(TwoLoops, lambda: call(Task(Program(loop=[], second=[]), 1)))
        task = in_turn("abc", 2)
        sheet = pace_paper(task=task)
        self.same([pace(task=task), shows_pace(task=task, pace=(3, 2), paper=sheet)], [(3, 2), True])
        self.same(sheet, pace_paper(task))
        self.same(Row.even(0, 3).pace, (3, 1))


if __name__ == "__main__":
    unittest.main()
