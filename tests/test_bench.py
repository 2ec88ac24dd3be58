"""The bench, and playing plans."""

import random
import unittest

from helping import Helping, strange_values
from loopstow.bench import Bench, play
from loopstow.deeds import Do, Make, Use
from loopstow.errors import (
    BadMove, BadName, BadNumber, BadPlan, Barred, Finished, NoLoop, TooMany,
)
from loopstow.moves import Again, Forget, Load, Move, Store
from loopstow.prices import Prices
from loopstow.programs import Program
from loopstow.tasks import Task
from plainly import drawn_task


def turns(slots=2, prices=None):
    return Task(Program(loop=[Use("a"), Use("b"), Use("c")], given=["a", "b", "c"]), slots, prices)


def state(bench):
    return [bench.cells, str(bench.standing), bench.paid, bench.done, bench.deed, bench.is_right]


class Played(Helping, unittest.TestCase):
    def test_document(self):
        bench = Bench(turns(), 1)
        self.same(
            [bench.move("load a"), bench.advance(), bench.put(1, "b"), bench.cells, bench.paid, str(bench.standing)],
            [1, 2, 1, ("a", "b"), 2, "a b / a b c"],
        )
        self.same(
            [play(turns(), [["load a"], ["load b"], ["forget b", "load c"], []], 1),
             bench.tried(lambda held: held.move("forget a")), bench.cells],
            [3, 0, ("a", "b")],
        )
        self.refused(BadPlan, lambda: play(turns(), [["load a"], [], [], []], 1), 1, None, "lacking", "b")

    def test_begin(self):
        bench = Bench(turns(3), 2)
        self.same(state(bench), [(None, None, None), "- / a b c", 0, 0, Use("a"), False])
        self.same(state(Bench(turns())), [(None, None), "- / a b c", 0, 0, None, True])
        for name in "move advance put trial tried __getitem__ __setitem__ __call__".split():
            self.assertIn(name, vars(Bench))
        for name in "cells standing paid done deed is_right".split():
            self.assertIsInstance(vars(Bench)[name], property)
        self.refused(NoLoop, lambda: Bench(turns(), 1, 1))
        self.refused(TooMany, lambda: Bench(turns(), 67), 200)
        self.same(Bench(turns(), n=66, m=0).deed, Use("a"))
        for value in strange_values():
            self.refused(BadNumber, lambda: Bench(turns(), value, None), value)
            self.refused(BadNumber, lambda: Bench(turns(), 0, value), value)

    def test_right(self):
        task = Task(Program([Make("x")], given=["y"], results=["x", "y"]), 1, Prices(1, 4))
        bench = Bench(task)
        self.same([bench.is_right, bench.advance(), bench.is_right, bench.move("store x"), bench.is_right],
                  [False, 0, False, 4, True])
        self.same(Bench(Task(Program(again={"a": 1}, results=["a"]), 1)).is_right, False)

    def test_later_slots(self):
        task = turns(2)
        bench = Bench(task, 1)
        task.slots = 4
        self.same(bench.cells, (None, None))
        for text in ("load a", "load b"):
            bench.move(text)
        self.refused(Barred, lambda: bench.move("load c"), "full", "c")

    def test_cells(self):
        program = Program([Make("x"), Do("y", "x"), Make("x")], given=["a", "b"], again={"b": 3})
        bench = Bench(Task(program, 3, Prices(2, 5, {"b": 7})))
        self.same([bench.move(Load("a")), bench.cells], [2, ("a", None, None)])
        self.same([bench.advance(), bench.cells], [2, ("a", "x", None)])
        self.same([bench.move(Forget("a")), bench.cells, bench.move("store x")], [0, (None, "x", None), 5])
        self.same([bench.advance(), bench.cells, str(bench.standing)], [1, ("y", "x", None), "x y / a b x"])
        self.same([bench.move("again b"), bench.cells], [3, ("y", "x", "b")])
        self.same([bench.advance(), bench.cells, str(bench.standing)], [0, ("y", "x", "b"), "b x y / a b"])
        self.same([bench.paid, bench.done, bench.deed, bench.is_right], [10, 3, None, True])

    def test_refused_moves(self):
        task = Task(Program([Use("b"), Make("c")], given=["a", "b"], again={"d": 3}), 1)
        bench = Bench(task)
        bench.move("load a")
        before = state(bench)
        for value in [*strange_values(), "load", "load  a", "Load a", "forget a ", "bring a", "load a1", Use("a")]:
            if not isinstance(value, Move):
                self.refused(BadMove, lambda: bench.move(value), value)
                if value is not None:
                    self.refused(BadMove, lambda: bench(value), value)
        for move, word in (
            ("load a", "held"), ("load b", "full"), ("load zz", "unstored"), ("again a", "fixed"), ("again d", "full"),
            ("store a", "kept"), ("store b", "lacking"), ("forget b", "lacking"), (Store("b"), "lacking"),
            (Again("zz"), "fixed"),
        ):
            self.refused(Barred, lambda: bench.move(move), word, str(move).split()[1])
        self.refused(Barred, lambda: bench.advance(), "lacking", "b")
        self.refused(Barred, lambda: bench(None), "lacking", "b")
        self.same(state(bench), before)
        self.same([bench.move("forget a"), bench.move("load b"), bench.advance()], [0, 1, 1])
        self.refused(Barred, lambda: bench.advance(), "full", "c")
        bench.move("forget b")
        self.same(bench.advance(), 0)
        self.refused(Finished, lambda: bench.advance())
        self.refused(Finished, lambda: bench(None))

    def test_lost(self):
        program = Program([Make("x"), Use("x"), Make("y"), Use("x", "y")], given=["x"])
        bench = Bench(Task(program, 2))
        bench.advance()
        self.same(str(bench.standing), "x / -")
        bench.move("forget x")
        self.refused(Barred, lambda: bench.advance(), "lost", "x")

    def test_call(self):
        bench = Bench(turns(), 1)
        self.same([bench("load a"), bench(None), bench(Load("b")), bench(thing=None)], [1, 2, 1, 1])
        self.same([bench.move(move="forget a"), bench.cells], [0, (None, "b")])

    def test_put(self):
        program = Program([Make("x")], given=["a", "b", "c"], again={"b": 1, "c": 2, "d": 9})
        bench = Bench(Task(program, 3, Prices(2, 5)))
        self.same([bench.put(2, "a"), bench.cells, bench[2], bench[0]], [2, (None, None, "a"), "a", None])
        self.same([bench.put(name="a", i=2), bench.paid], [0, 2])
        self.same([bench.put(2, "b"), bench.paid, bench.cells], [1, 3, (None, None, "b")])
        self.same([bench.put(0, "c"), bench.paid], [2, 5])
        bench[1] = "d"
        self.same([bench.paid, bench.cells], [14, ("c", "d", "b")])
        before = state(bench)
        for call in (lambda: bench.put(0, "d"), lambda: bench.__setitem__(0, "d")):
            self.refused(Barred, call, "held", "d")
        for call in (lambda: bench.put(0, "x"), lambda: bench.put(0, "zz"), lambda: bench.__setitem__(1, "x")):
            with self.assertRaises(Barred) as told:
                call()
            self.same(told.exception.word, "unstored")
        self.same(state(bench), before)
        bench[1] = None
        self.same([bench.cells, bench.paid, bench.put(1, None), bench.put(0, None)], [("c", None, "b"), 14, 0, 0])
        self.same(bench.cells, (None, None, "b"))
        bench[0] = "b" if bench[2] is None else "a"
        self.same([bench.cells, bench.paid], [("a", None, "b"), 16])

    def test_put_loses(self):
        bench = Bench(Task(Program([Make("x")], given=["a"], results=["x"]), 1))
        bench.advance()
        bench[0] = "a"
        self.refused(Barred, lambda: bench.put(0, "x"), "unstored", "x")
        # The price of bringing: again only if it is cheaper.
        for load, again, price in ((2, 2, 2), (2, 1, 1), (1, 2, 1)):
            bench = Bench(Task(Program(given=["a"], again={"a": again}), 1, Prices(9, 1, {"a": load})))
            self.same([bench.put(0, "a"), bench.paid], [price, price])

    def test_refused_indexes(self):
        bench = Bench(turns(), 1)
        for value in [*strange_values(), 2, 3, -2, 10 ** 50]:
            self.refused(BadNumber, lambda: bench[value], value)
            self.refused(BadNumber, lambda: bench.__setitem__(value, None), value)
            self.refused(BadNumber, lambda: bench.put(value, "1"), value)
        for value in strange_values():
            if value is not None:
                self.refused(BadName, lambda: bench.put(1, value), value)
                self.refused(BadName, lambda: bench.__setitem__(0, value), value)
        with self.assertRaises(TypeError):
            list(bench)
        self.same(state(bench), state(Bench(turns(), 1)))

    def test_trials(self):
        bench = Bench(turns(), 2)
        bench.move("load a")
        before = state(bench)
        with bench.trial() as held:
            self.assertIs(held, bench)
            held.advance()
            inside = state(bench)
            with bench.trial() as again:
                self.assertIs(again, bench)
                again.move("load b")
                again.advance()
                again[0] = "c"
            self.same(state(bench), inside)
            with self.assertRaises(Barred):
                with bench.trial():
                    bench.move("forget a")
                    bench.move("forget a")
            self.same(state(bench), inside)
        self.same(state(bench), before)
        with self.assertRaises(KeyError):
            with bench.trial():
                bench.advance()
                raise KeyError("x")
        self.same(state(bench), before)
        kept = bench.trial()
        maker = Bench(Task(Program([Make("x"), Make("x")], given=["x"]), 1))
        with maker.trial():
            maker.advance()
            self.same(str(maker.standing), "x / -")
        self.same([str(maker.standing), maker.done], ["- / x", 0])
        maker.advance()
        with maker.trial():
            maker.move("store x")
            with maker.trial():
                maker.advance()
            self.same(str(maker.standing), "x / x")
        self.same([str(maker.standing), maker.done], ["x / -", 1])
        bench.move("forget a")
        with kept:
            bench.move("load b")
        self.same(bench.cells, (None, None))
        bench.move("load c")
        with kept:
            bench.move("load b")
        self.same([bench.cells, bench.paid], [("c", None), 2])

    def test_tried(self):
        bench = Bench(turns(), 2)
        self.same(bench.tried(lambda held: [held.move("load a"), held.advance(), held.paid]), [1, 5, 1])
        self.same(bench.tried(deed=lambda held: held.tried(lambda one: one is bench and held is bench)), True)
        self.refused(Barred, lambda: bench.tried(lambda held: [held.move("load a"), held.advance(), held.advance()]),
                     "lacking", "b")
        self.same(state(bench), state(Bench(turns(), 2)))


class Plans(Helping, unittest.TestCase):
    def test_forms(self):
        for value in [
            *strange_values(), [], [[]] * 3, [[]] * 5, ([], [], [], None), [[], [], [], "load a"], {0: [], 1: []},
            [["load a"], [], [], {}], [[None], [], [], {}],
        ]:
            self.refused(BadPlan, lambda: play(turns(), value, 1), None, None, "form", None)
        for value in [*strange_values(), "load", "load a1", "load a "]:
            if not isinstance(value, Move):
                # A wrong form is told first, also behind what cannot be done.
                plan = [["store a"], ("forget c", "load a", value, 7), [7], []]
                self.refused(BadPlan, lambda: play(turns(), plan, 1), 1, 2, "form", None)
        self.same(play(Task(Program(), 1), [[]]), 0)
        self.same(play(Task(Program(), 1), ((),)), 0)

    def test_rows_and_kinds(self):
        plan = ([Load("a")], ("load b",), [Move.read("forget b"), "load c"], ())
        self.same(play(turns(), plan, n=1), 3)
        self.same(play(plan=plan, task=turns(), n=1, m=0), 3)

    def test_first_that_cannot_be_done(self):
        for plan, fields in (
            ([["load a", "load b", "load c"], [], [], []], (0, 2, "full", "c")),
            ([["load a", "again a"], [], [], []], (0, 1, "fixed", "a")),
            ([[], ["load a"], [], []], (0, None, "lacking", "a")),
            ([["load a"], ["load b"], ["forget c"], []], (2, 0, "lacking", "c")),
            ([["load a"], ["load b"], ["forget a", "load c"], ["store c"]], (3, 0, "kept", "c")),
            ([["load a"], ["load b"], ["forget a", "load c"], ["load zz"]], (3, 0, "unstored", "zz")),
        ):
            self.refused(BadPlan, lambda: play(turns(), plan, 1), *fields)
            with self.assertRaises(BadPlan) as told:
                play(turns(), plan, 1)
            cause = told.exception.__cause__
            self.assertIsInstance(cause, Barred)
            self.same([cause.word, cause.name], list(fields[2:]))
        task = Task(Program([Make("x"), Use("x")], given=["x"]), 1)
        self.refused(BadPlan, lambda: play(task, [[], ["forget x"], []]), 1, None, "lost", "x")
        task = Task(Program([Make("x"), Make("y")]), 1)
        self.refused(BadPlan, lambda: play(task, [[], [], []]), 1, None, "full", "y")
        self.same(play(task, [[], ["forget x"], []]), 0)

    def test_results(self):
        task = Task(Program([Make("x"), Make("y")], results=["y", "x"], given=["y"], again={"b": 1}), 2, Prices(1, 4))
        self.refused(BadPlan, lambda: play(task, [[], [], []]), 2, None, "results", "x")
        self.refused(BadPlan, lambda: play(task, [[], ["store x"], []]), 2, None, "results", "y")
        self.same(play(task, [[], ["store x"], ["store y"]]), 8)
        self.refused(BadPlan, lambda: play(Task(Program(again={"b": 1}, results=["b"]), 1), [[]]), 0, None, "results", "b")
        self.same(play(Task(Program(again={"b": 3}, results=["b"]), 1, Prices(1, 4)), [["again b", "store b"]]), 7)

    def test_straight_first(self):
        self.refused(NoLoop, lambda: play(turns(), None, 1, 1))
        self.refused(BadNumber, lambda: play(turns(), None, -1), -1)
        self.refused(TooMany, lambda: play(turns(), None, 67), 200)

    def test_drawn_plans_against_a_bench(self):
        """Whatever a bench can do is played at the same price; what it cannot do is told."""
        source = random.Random(31)
        for index in range(120):
            task = drawn_task(source, loops=index % 3, names="abc")
            n, m = source.randrange(3) if index % 3 else 0, source.randrange(3) if index % 3 == 2 else 0
            bench, plan, wrong = Bench(task, n, m), [], None
            while True:
                plan.append([])
                for _ in range(source.randrange(6)):
                    text = f"{source.choice(('load', 'again', 'store', 'forget'))} {source.choice('abc')}"
                    try:
                        bench.move(text)
                    except Barred as told:
                        if source.random() < 0.05 and wrong is None:
                            wrong = (len(plan) - 1, len(plan[-1]), told.word, told.name)
                            plan[-1].append(text)
                        continue
                    plan[-1].append(text)
                if bench.deed is None:
                    break
                try:
                    bench.advance()
                except Barred as told:
                    wrong = wrong or (len(plan) - 1, None, told.word, told.name)
                    break
            plan += [[] for _ in range(len(task.straight(n, m).program.ahead) + 1 - len(plan))]
            if wrong is None and not bench.is_right:
                missing = min(set(task.program.results) - set(bench.standing.stored))
                wrong = (len(plan) - 1, None, "results", missing)
            if wrong is None:
                self.same(play(task, plan, n, m), bench.paid)
            else:
                self.refused(BadPlan, lambda: play(task, plan, n, m), *wrong)


if __name__ == "__main__":
    unittest.main()
