"""Pinned names [10]."""

import inspect
import random
import unittest

from helping import Helping, strange_values
from loopstow.deeds import Do, Make, Use
from loopstow.errors import BadName, Crowded, NoLoop, TooMany, Twice, TwoLoops
from loopstow.loops import row
from loopstow.pins import pinned_row
from loopstow.prices import Prices
from loopstow.programs import Program
from loopstow.rows import Row
from loopstow.straight import least_price
from loopstow.tables import turn
from loopstow.tasks import Task
from plainly import all_reached, behind_deed, drawn_task, late_tasks, spread


def turns(slots=2, prices=None):
    return Task(Program(loop=[Use("a"), Use("b"), Use("c")], given=["a", "b", "c"]), slots, prices)


def pinned_least(task, names, n):
    """The least price of such a plan, by a search over all standings."""
    program = task.program
    reached = all_reached(task, None, program.ahead)[-1]
    for _ in range(n):
        for deed in program.loop:
            found = {}
            for (held, kept), price in reached.items():
                state = behind_deed(task, deed, held, kept) if set(names) <= held else None
                if state is not None and price < found.get(state, price + 1):
                    found[state] = price
            reached = spread(task, found)
    last = all_reached(task, reached, program.behind)[-1]
    return min(price for (_, kept), price in last.items() if set(program.results) <= kept)


def may_be_pinned(program):
    parts = (program.ahead, program.loop, program.behind)
    made = {deed.makes for part in parts for deed in part}
    return sorted({name for deed in program.loop for name in deed.uses} - made)


class Pins(Helping, unittest.TestCase):
    def test_document(self):
        self.same(str(pinned_row(turns(), ["a"])), "0 | 3 + 2")

    def test_against_a_search(self):
        source = random.Random(631)
        seen = {0: 0, 1: 0, 2: 0}
        crowded = 0
        while min(seen.values()) < 20:
            task = drawn_task(source, loops=1, names="abc", most=3)
            names = [name for name in may_be_pinned(task.program) if source.random() < 0.8][:2]
            source.shuffle(names)
            if seen[len(names)] > 25:
                continue
            places = [
                ("loop", at) for at, deed in enumerate(task.program.loop) if len({*names, *deed.names}) > task.slots
            ]
            if places:
                crowded += 1
                self.refused(Crowded, lambda: pinned_row(task, names), places[0])
                continue
            seen[len(names)] += 1
            found = pinned_row(task, names if seen[0] % 2 else tuple(names))
            self.assertIsInstance(found, Row)
            self.same(list(found.numbers(5)), [pinned_least(task, names, n) for n in range(5)])
            self.assertTrue(row(task) <= found)
        self.assertGreater(crowded, 2)

    def test_no_pins(self):
        source = random.Random(632)
        for _ in range(60):
            task = drawn_task(source, loops=1, names="abcd", most=5)
            self.assertEqual(pinned_row(task, []), row(task))
            self.assertEqual(pinned_row(task, ()), row(task))

    def test_last_round(self):
        """The names lie in slots at all deeds of the last round, too, whatever follows."""
        program = Program(loop=[Use("a"), Use("b"), Use("c")], given=["a", "b", "c"])
        task = Task(program, 2, Prices(1, 1))
        self.same([row(task)[1], pinned_row(task, ["a"])[1], pinned_row(task, ["c"])[1]], [3, 3, 3])
        late = Task(Program([Use("a")], [Use("b"), Use("a")], given=["a", "b"]), 2)
        self.same([str(row(late)), str(pinned_row(late, ["a"])), str(pinned_row(late, ["a", "b"]))],
                  ["1 | 2 + 0", "1 | 2 + 0", "1 | 2 + 0"])
        made = Program([Make("x"), Make("y")], [Use("a"), Use("x")], behind=[Use("y"), Use("x")], given=["a"])
        for names in ([], ["a"]):
            told = list(pinned_row(Task(made, 2, Prices(1, 4)), names).numbers(4))
            self.same(told, [pinned_least(Task(made, 2, Prices(1, 4)), names, n) for n in range(4)])
        # Nobody needs a behind its only use, but x has to give its slot to it in the last round, too.
        deeds = [Use("a"), Do("x", "x"), Do("x", "x")]
        hard = Task(Program([Make("x"), Make("y")], deeds, behind=[Use("x", "y")], given=["a"]), 3, Prices(1, 1))
        for n in range(4):
            self.same([row(hard)[n], pinned_row(hard, ["a"])[n]], [pinned_least(hard, [], n), pinned_least(hard, ["a"], n)])
        tight = Task(Program([Make("y")], [Use("a"), Do("x", "b")], behind=[Use("y")], given=["a", "b"]), 3, Prices(1, 5))
        self.same([row(tight)[1], pinned_row(tight, ["a"])[1], pinned_least(tight, ["a"], 1)], [2, 8, 8])

    def test_wrong_names(self):
        for value in [*strange_values(), "d", "x", "abc"]:
            if value not in ("a",):
                self.refused(BadName, lambda: pinned_row(turns(), [value]), value)
                self.refused(BadName, lambda: pinned_row(turns(), ("a", "a", value, 0)), value)
        program = Program(
            [Make("m")], [Use("a", "m"), Use("w")], behind=[Use("z"), Make("w")], given=["a", "z", "w"], again={"q": 1},
        )
        task = Task(program, 2)
        for name in ("m", "w", "z", "q"):
            self.refused(BadName, lambda: pinned_row(task, ["a", name, "a"]), name)
        self.refused(Twice, lambda: pinned_row(turns(), ["b", "a", "c", "a", "b"]), "a")
        self.refused(Twice, lambda: pinned_row(turns(1), ("b", "b")), "b")
        self.refused(BadName, lambda: pinned_row(turns(), ["a", "a", "d"]), "d")
        inner = Task(Program(loop=[Use("a"), Make("a"), Use("b")], given=["a", "b"]), 1)
        self.refused(BadName, lambda: pinned_row(inner, ["b", "a"]), "a")

    def test_crowded(self):
        program = Program([Use("a", "b", "c")], [Use("a"), Do("x", "b"), Use("c")], given=["a", "b", "c"])
        task = Task(program, 3)
        for names, place in ((["a", "b"], None), (["a", "c"], ("loop", 1)), (["a", "b", "c"], ("loop", 1)), (["c"], None)):
            if place is None:
                self.same(list(pinned_row(task, names).numbers(4)), [pinned_least(task, names, n) for n in range(4)])
            else:
                self.refused(Crowded, lambda: pinned_row(task, names, 1), place)
        self.refused(Crowded, lambda: pinned_row(turns(1), ["b"]), ("loop", 0))
        self.refused(Crowded, lambda: pinned_row(turns(1), ["a"]), ("loop", 1))
        self.refused(Crowded, lambda: pinned_row(turns(2), ["a", "b", "c"]), ("loop", 0))
        self.same(str(pinned_row(turns(3), ["c", "a", "b"])), "0 | 3 + 0")

    def test_four_names_at_a_deed(self):
        program = Program([Make("x")], [Do("x", "a", "b", "c"), Use("d", "a", "b")], given="abcd", results="x")
        task = Task(program, 4, Prices(2, 3))
        for names in (["a"], ["a", "b"], ["b", "c"], ["a", "b", "c"]):
            self.same(list(pinned_row(task, names).numbers(3)), [pinned_least(task, names, n) for n in range(3)])
        self.refused(Crowded, lambda: pinned_row(task, ["d"]), ("loop", 0))

    def test_bounds(self):
        self.same(inspect.signature(pinned_row).parameters["most"].default, 120)
        self.same(turn(turns()), (1, 2, 3))
        for most in (1, 2):
            self.refused(TooMany, lambda: pinned_row(turns(), [], most), most)
        self.same([str(pinned_row(turns(), [], 3)), str(pinned_row(turns(), ["a"], 2))], ["0 | 3 4 + 3", "0 | 3 + 2"])
        self.refused(TooMany, lambda: pinned_row(turns(), ["a"], 1), 1)
        for task, (s, p, _) in late_tasks():
            self.refused(TooMany, lambda: pinned_row(task, [], s + p - 1), s + p - 1)
            self.assertEqual(pinned_row(task, [], s + p), row(task, s + p))
            for name in may_be_pinned(task.program)[:1]:
                low, high = 0, 400
                while high - low > 1:
                    try:
                        pinned_row(task, [name], (low + high) // 2)
                        high = (low + high) // 2
                    except TooMany as why:
                        low = why.most
                found = pinned_row(task, [name], high)
                self.assertLessEqual(found.start + found.period, high + 1)
                self.assertEqual(pinned_row(task=task, names=[name], most=400), found)
                self.assertTrue(row(task, 400) <= found)

    def test_refused_in_order(self):
        for names in ([], ["a"], [None], ["a", "a"]):
            self.refused(NoLoop, lambda: pinned_row(Task(Program([Use("a")], given="a"), 1), names))
            two = Program(loop=[Use("a")], second=[], given="a")
            self.refused(TwoLoops, lambda: pinned_row(Task(two, 1), names, 1))

    def test_empty_loop(self):
        task = Task(Program([Use("a")], [], given=["a"]), 1)
        self.same(str(pinned_row(task, [], 1)), "| 1 + 0")
        self.refused(BadName, lambda: pinned_row(task, ["a"]), "a")

    def test_no_rounds(self):
        source = random.Random(633)
        for _ in range(60):
            task = drawn_task(source, loops=1, names="abcd", most=4)
            names = may_be_pinned(task.program)[:1]
            if all(len({*names, *deed.names}) <= task.slots for deed in task.program.loop):
                self.same(pinned_row(task, names)[0], least_price(task))

    def test_large(self):
        source = random.Random(634)
        loop = [Use(*source.sample("abcdef", source.choice((1, 1, 2)))) for _ in range(24)]
        task = Task(Program(loop=loop, given="abcdef", results="af"), 4, Prices(3, 5))
        for names in (["a"], ["a", "b"]):
            found = pinned_row(task, names, 400)
            self.assertTrue(row(task, 400) <= found)


if __name__ == "__main__":
    unittest.main()
