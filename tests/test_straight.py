"""Least prices and least plans of straight programs [7, 10]."""

import random
import unittest

from helping import Helping, strange_values
from loopstow.bench import play
from loopstow.deeds import Do, Make, Use
from loopstow.errors import BadNumber, NoLoop, TooMany
from loopstow.moves import Move
from loopstow.prices import Prices
from loopstow.programs import Program
from loopstow.straight import least_plan, least_price
from loopstow.tasks import Task
from plainly import drawn_task, plain_least


def turns(slots=2, prices=None):
    return Task(Program(loop=[Use("a"), Use("b"), Use("c")], given=["a", "b", "c"]), slots, prices)


def busy():
    return Program([Make("x"), Use("y"), Use("z"), Use("y"), Use("x")], given=["y", "z"])


class Straight(Helping, unittest.TestCase):
    def check_plan(self, task, price, n=0, m=0):
        plan = least_plan(task, n, m)
        self.assertIsInstance(plan, list)
        self.assertTrue(all(isinstance(row, list) and all(isinstance(move, Move) for move in row) for row in plan))
        self.same(play(task, plan, n, m), price)

    def test_document(self):
        tiny = Task(Program([Use("a")], given=["a"]), 1, Prices(2, 1))
        fall = Program([Make("x"), Use("a")], [Make("x")], behind=[Use("x")], given=["a"])
        self.same(
            [least_price(tiny), least_price(Task(busy(), 2, Prices(1, 5))), least_price(turns(), 3),
             least_price(Task(fall, 1, Prices(1, 9)))],
            [2, 3, 6, 11],
        )
        self.check_plan(Task(busy(), 2, Prices(1, 5)), 3)
        self.same([least_price(turns(), n) for n in range(6)], [0, 3, 4, 6, 7, 9])
        self.same([least_price(turns()), least_plan(turns())], [0, [[]]])
        twice = Task(Program(loop=[Use("a")], second=[Use("b")], given=["a", "b"]), 1)
        self.same([least_price(twice), least_price(twice, 1), least_price(twice, m=1), len(least_plan(twice, 2))],
                  [0, 1, 1, 3])

    def test_small(self):
        for program, slots, prices, price in (
            (Program(), 1, None, 0),
            (Program(given=["a"], results=["a"]), 1, None, 0),
            (Program(again={"a": 4, "b": 2}, results=["a", "b"]), 1, Prices(1, 3), 12),
            (Program([Make("x")], given=["x"], results=["x"]), 1, Prices(1, 3), 3),
            (Program([Make("x")], given=["x"]), 1, Prices(1, 3), 0),
            # The old copy in the store is gone.
            (Program([Make("x"), Use("y"), Use("x")], given=["x", "y"]), 1, Prices(1, 3), 5),
            # A made name that nobody needs wants a slot.
            (Program([Use("a"), Make("x"), Use("a")], given=["a"]), 1, Prices(1, 3), 2),
            (Program([Use("a"), Make("x"), Use("a")], given=["a"]), 2, Prices(1, 3), 1),
            (Program([Make("x"), Make("y"), Use("x")]), 1, Prices(1, 3), 4),
            # Making again is cheaper, or only the second time.
            (Program([Use("a"), Use("b"), Use("a")], again={"a": 2}, given=["a", "b"]), 1, Prices(3, 1), 7),
            (Program([Use("a"), Use("b"), Use("a"), Use("b"), Use("a")], again={"a": 9, "b": 0}), 1, Prices(1, 1), 12),
            (Program([Use("a")], again={"a": 0}, given=["a"]), 1, Prices(0, 0), 0),
            (Program([Use("a"), Use("b"), Use("a")], given=["a", "b"]), 1, Prices(1, 1, {"a": 9, "b": 0}), 18),
            (Program([Do("x", "a", "b", "c"), Use("a", "b", "c", ), Use("x")], given=["a", "b", "c"]), 4, None, 3),
            (Program([Make("x"), Do("x", "x"), Use("a")], given=["a"], results=["x"]), 1, Prices(2, 7), 9),
        ):
            task = Task(program, slots, prices)
            self.same([least_price(task), plain_least(task)], [price, price])
            self.check_plan(task, price)

    def test_against_a_search(self):
        source = random.Random(41)
        for index in range(240):
            task = drawn_task(source, loops=index % 3, names="abcd" if index % 4 else "abc")
            n, m = source.randrange(3) if index % 3 else 0, source.randrange(3) if index % 3 == 2 else 0
            price = plain_least(task, n, m)
            self.same(least_price(task, n, m), price)
            self.check_plan(task, price, n, m)

    def test_five_and_six_names(self):
        source = random.Random(42)
        for index in range(12):
            task = drawn_task(source, names="abcdef"[:5 + index % 2], most=6)
            price = plain_least(task)
            self.same(least_price(task), price)
            self.check_plan(task, price)

    def test_most_deeds(self):
        rows = [Use("abcdef"[(index * index + index // 7) % 6]) for index in range(200)]
        task = Task(Program(rows, given="abcdef", results="ab"), 4, Prices(1, 1))
        self.check_plan(task, least_price(task))
        changing = [Make("abcdef"[index % 6]) if index % 5 == 0 else deed for index, deed in enumerate(rows)]
        task = Task(Program(changing, given="abcdef", results="abcdef"), 4, Prices(3, 2))
        self.check_plan(task, least_price(task))
        self.same(least_price(turns(), 66), 100)
        for call in (least_price, least_plan):
            self.refused(TooMany, lambda: call(turns(), 67), 200)
            self.refused(TooMany, lambda: call(turns(), 10 ** 59), 200)
        empty = Task(Program([Use("a")], [], given=["a"]), 1)
        self.same([least_price(empty, 10 ** 59), least_price(task=empty, n=3, m=0)], [1, 1])
        self.check_plan(empty, 1, 10 ** 59)

    def test_refused(self):
        for call in (least_price, least_plan):
            for value in strange_values():
                self.refused(BadNumber, lambda: call(turns(), value, None), value)
                self.refused(BadNumber, lambda: call(turns(), 67, value), value)
            self.refused(NoLoop, lambda: call(turns(), 67, 1))
            self.refused(NoLoop, lambda: call(Task(busy(), 2), 1))

    def test_same_each_time(self):
        task = turns(2, Prices(1, 1))
        self.same(
            [[str(move) for move in row] for row in least_plan(task, 5)],
            [[str(move) for move in row] for row in least_plan(turns(2), 5)],
        )


class Facts(Helping, unittest.TestCase):
    """What holds for any program [10]."""

    def drawn(self, count, loops, seed):
        source = random.Random(seed)
        for _ in range(count):
            yield source, drawn_task(source, loops=loops, names="abc")

    def test_more_slots_never_cost_more(self):
        for _, task in self.drawn(60, 1, 51):
            if task.slots < 4:
                more = task.with_slots(task.slots + 1)
                for n in range(3):
                    self.assertLessEqual(least_price(more, n), least_price(task, n))

    def test_all_prices_times_c(self):
        for source, task in self.drawn(60, 1, 52):
            program, prices = task.program, task.prices
            most = max([prices.load, prices.store, *prices.loads.values(), *program.again.values()])
            c = source.randrange(9 // max(most, 1) + 1) if most else 5
            other = Program(
                program.ahead, program.loop, behind=program.behind, given=program.given, results=program.results,
                again={name: c * price for name, price in program.again.items()},
            )
            for n in range(3):
                self.same(least_price(Task(other, task.slots, c * prices), n), c * least_price(task, n))

    def test_loops_told_otherwise(self):
        for source, task in self.drawn(80, 1, 53):
            program = task.program
            other = lambda told: Task(told, task.slots, task.prices)
            j = source.randrange(len(program.loop) + 1)
            for n in range(3):
                self.same(least_price(other(program ** 2), n), least_price(task, 2 * n))
                self.same(least_price(other(program.unrolled(1)), n), least_price(task, n + 1))
                self.same(least_price(other(program.turned(j)), n), least_price(task, n + 1))
                twice = Program(
                    program.ahead, program.loop, (), program.loop, program.behind,
                    given=program.given, again=program.again, results=program.results,
                )
                for m in range(3):
                    self.same(least_price(other(twice), n, m), least_price(task, n + m))

    def test_names_in_turn(self):
        for m in range(2, 6):
            for k in range(1, m):
                task = Task(Program(loop=[Use(name) for name in "abcde"[:m]], given="abcde"[:m]), min(k, 4))
                if k <= 4:
                    prices = [least_price(task, n) for n in range(3 * m)]
                    self.same(prices[-1] - prices[-m], m * (m - k))

    def test_not_rising(self):
        """The last round stores nothing that nobody needs."""
        program = Program([Make("x")], [Use("a"), Make("x")], given=["a", "x"], results=["x"])
        prices = [least_price(Task(program, 1, Prices(1, 9)), n) for n in range(4)]
        self.same(prices, [9, 10, 11, 12])
        drops = Program([Make("x"), Use("a")], [Make("x")], behind=[Use("x")], given=["a"])
        self.same([least_price(Task(drops, 1, Prices(1, 9)), n) for n in range(4)], [11, 1, 1, 1])


if __name__ == "__main__":
    unittest.main()
