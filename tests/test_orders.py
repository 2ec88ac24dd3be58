"""Orders of deeds [10]."""

import inspect
import random
import types
import unittest

from helping import Helping
from loopstow.deeds import Do, Make, Use
from loopstow.errors import NoLoop, StowError, TooMany, TwoLoops
from loopstow.loops import row
from loopstow.orders import best_order, order_rows, orders
from loopstow.prices import Prices
from loopstow.programs import Program
from loopstow.rows import Row
from loopstow.tables import turn
from loopstow.tasks import Task
from plainly import drawn_deed, drawn_task, late_tasks


def hang(one, other):
    made = lambda first, second: first.makes in (*second.uses, second.makes) if first.makes else False
    return made(one, other) or made(other, one)


def by_neighbours(deeds, most=10 ** 4):
    """The rows that come of exchanging neighbours, one after another; None if there are very many."""
    first = tuple(range(len(deeds)))
    known, todo = {first}, [first]
    while todo:
        row = todo.pop()
        for at in range(len(row) - 1):
            if not hang(deeds[row[at]], deeds[row[at + 1]]):
                other = (*row[:at], row[at + 1], row[at], *row[at + 2:])
                if other not in known:
                    known.add(other)
                    todo.append(other)
                    if len(known) > most:
                        return None
    found = []
    for indexes in sorted(known):
        texts = [str(deeds[index]) for index in indexes]
        if texts not in found:
            found.append(texts)
    return found


def texts(rows):
    return [[str(deed) for deed in row] for row in rows]


class Orders(Helping, unittest.TestCase):
    def test_document(self):
        found = texts(orders([Make("x"), Use("a"), Use("x")]))
        self.same(found, [["make x", "use a", "use x"], ["make x", "use x", "use a"], ["use a", "make x", "use x"]])

    def test_by_exchanging_neighbours(self):
        source = random.Random(611)
        many = 0
        for index in range(400):
            names = "abc" if index % 2 else "abcde"
            deeds = [drawn_deed(source, list(names)) for _ in range(source.randrange(7))]
            wanted = by_neighbours(deeds)
            rows = tuple(deeds) if index % 3 else deeds
            if len(wanted) > 24:
                many += 1
                self.refused(TooMany, lambda: list(orders(rows)), 24)
            else:
                found = list(orders(rows))
                self.same(texts(found), wanted)
                self.same([row.__class__ for row in found], [tuple] * len(found))
        self.assertGreater(many, 20)

    def test_24_and_25(self):
        self.same(len(list(orders([Use(name) for name in "abcd"]))), 24)
        self.same(texts(orders([Use(name) for name in "abcd"]))[-1], ["use d", "use c", "use b", "use a"])
        self.refused(TooMany, lambda: list(orders([Use(name) for name in "abcde"])), 24)
        # One free deed among 24 that hang together has 25 places, and among 23 of them 24.
        chain = [Make("x")] * 24
        self.same(len(list(orders([*chain[:23], Use("a")]))), 24)
        self.refused(TooMany, lambda: list(orders([*chain, Use("a")])), 24)
        self.refused(TooMany, lambda: list(orders([Use("a"), *chain])), 24)
        self.same(texts(orders([*chain[:23], Use("a")]))[0], ["make x"] * 23 + ["use a"])

    def test_equal_deeds(self):
        self.same(texts(orders([Use("a")] * 24)), [["use a"] * 24])
        self.same(texts(orders([Use("a"), Use("b"), Use("a")])), by_neighbours([Use("a"), Use("b"), Use("a")]))
        self.same(texts(orders([Use("b"), Use("a"), Use("a")])), [
            ["use b", "use a", "use a"], ["use a", "use b", "use a"], ["use a", "use a", "use b"],
        ])
        self.same(texts(orders([Use("a"), Make("a"), Use("a"), Use("b")])), [
            ["use a", "make a", "use a", "use b"], ["use a", "make a", "use b", "use a"],
            ["use a", "use b", "make a", "use a"], ["use b", "use a", "make a", "use a"],
        ])
        self.same(len(list(orders([Use("a")] * 23 + [Use("b")]))), 24)
        self.refused(TooMany, lambda: list(orders([Use("a")] * 24 + [Use("b")])), 24)
        self.same(len(list(orders([Use("a", "b"), Use("b", "a")]))), 2)

    def test_what_hangs_together(self):
        for one, other, count in (
            (Use("a"), Use("b"), 2), (Use("a"), Make("b"), 2), (Use("a"), Make("a"), 1), (Make("a"), Make("a"), 1),
            (Make("a"), Make("b"), 2), (Do("a", "b"), Do("c", "b"), 2), (Do("a", "b"), Do("b", "c"), 1),
            (Do("a", "b"), Do("a", "c"), 1), (Do("a", "a"), Use("a"), 1), (Do("a", "b"), Use("b"), 2),
        ):
            self.same([len(list(orders([one, other]))), len(list(orders([other, one])))], [count, count])

    def test_no_deeds(self):
        self.same([list(orders([])), list(orders(())), texts(orders([Use("a")]))], [[()], [()], [["use a"]]])

    def test_generator(self):
        self.assertIsInstance(orders(deeds=[]), types.GeneratorType)
        late = orders([Use(name) for name in "abcde"])
        self.refused(TooMany, lambda: next(late), 24)
        deeds = [Use("a")]
        rows = orders(deeds)
        deeds.append(Use("b"))
        self.same(texts(rows), [["use a", "use b"], ["use b", "use a"]])
        begun = orders(deeds)
        next(begun)
        deeds.clear()
        self.same(texts(begun), [["use b", "use a"]])

    def test_uses_see_the_same_values(self):
        source = random.Random(612)
        for _ in range(100):
            deeds = [drawn_deed(source, list("abc")) for _ in range(5)]
            sight = lambda row: sorted(
                (str(deed), name, sum(1 for other in row[:at] if other.makes == name))
                for at, deed in enumerate(row) for name in deed.uses
            )
            try:
                for found in orders(deeds):
                    self.same(sight(found), sight(deeds))
            except TooMany:
                pass


class Rows(Helping, unittest.TestCase):
    def task_of(self, task, deeds):
        program = task.program
        other = Program(
            program.ahead, deeds, behind=program.behind, given=program.given, again=program.again, results=program.results,
        )
        return Task(other, task.slots, task.prices)

    def test_rows(self):
        source = random.Random(613)
        for _ in range(60):
            task = drawn_task(source, loops=1, names="abcd", most=4)
            if len(by_neighbours(task.program.loop)) > 24:
                self.refused(TooMany, lambda: order_rows(task), 24)
                self.refused(TooMany, lambda: best_order(task), 24)
                continue
            found = order_rows(task)
            self.same([pair.__class__ for pair in found], [tuple] * len(found))
            self.same(texts([pair[0] for pair in found]), texts(orders(task.program.loop)))
            for deeds, told in found:
                self.assertIsInstance(told, Row)
                self.assertEqual(told, row(self.task_of(task, deeds)))
            best = best_order(task)
            paces = [told.pace[0] / told.pace[1] for _, told in found]
            first = found[paces.index(min(paces))]
            self.same([texts([best[0]]), str(best[1])], [texts([first[0]]), str(first[1])])
            self.assertEqual(found[0][1], row(task))

    def test_best_order(self):
        program = Program(loop=[Use("a"), Use("b"), Use("a"), Use("b")], given=["a", "b"])
        deeds, told = best_order(Task(program, 1))
        self.same([texts([deeds]), str(told)], [[["use a", "use b", "use b", "use a"]], "0 | 3 + 2"])
        self.same(len(order_rows(task=Task(program, 1), most=2)), 6)
        self.same(texts([best_order(Task(program, 2))[0]]), [["use a", "use b", "use a", "use b"]])

    def test_refused(self):
        for call in (order_rows, best_order):
            self.same(inspect.signature(call).parameters["most"].default, 120)
            self.refused(NoLoop, lambda: call(Task(Program(), 1)))
            many = [Use(name) for name in "abcde"]
            two = Program(loop=many, second=[], given="abcde")
            self.refused(TwoLoops, lambda: call(Task(two, 1), 1))
            self.refused(TooMany, lambda: call(Task(Program(loop=many, given="abcde"), 1), 1), 24)
            three = Program(loop=[Use("a"), Use("b"), Use("c")], given="abc")
            self.refused(TooMany, lambda: call(Task(three, 2), 2), 2)
            self.same(len(order_rows(Task(three, 2), 3)), 6)

    def test_errors_order_by_order(self):
        """The first order that is refused tells the error: too many standings, or a turn that comes too late."""
        again = {name: 1 for name in "abcd"}
        for loop, most, error in (
            ([Make("x"), Use("x"), Make("y"), Use("y")], 120, 600), ([Make("x"), Use("x"), Make("y"), Use("y")], 1, 600),
            ([Make("x"), Make("y"), Do("x", "x"), Use("y")], 120, None), ([Make("x"), Use("x"), Use("x"), Make("x")], 120, 0),
        ):
            program = Program(loop=loop, given="ab", again=again, results="abcd")
            if error is None:
                self.refused(TooMany, lambda: Task(program, 3), 600)
                continue
            task = Task(program, 3)
            self.same(self.first_error(task, most), error or None)
            for call in (order_rows, best_order):
                if error:
                    self.refused(TooMany, lambda: call(task, most), error)
                else:
                    call(task, most)

    def test_errors_of_late_turns(self):
        source = random.Random(614)
        seen = 0
        for index in range(150):
            task = drawn_task(source, loops=1, names="abc", most=4)
            most = 1 + index % 2
            if len(by_neighbours(task.program.loop)) <= 24:
                error = self.first_error(task, most)
                if error is None:
                    self.same(len(order_rows(task, most)), len(list(orders(task.program.loop))))
                else:
                    seen += 1
                    self.refused(TooMany, lambda: order_rows(task, most), error)
                    self.refused(TooMany, lambda: best_order(task, most), error)
        self.assertGreater(seen, 3)

    def first_error(self, task, most):
        """The number that the first order tells that is refused, or None."""
        for deeds in orders(task.program.loop):
            try:
                row(self.task_of(task, deeds), most)
            except TooMany as why:
                return why.most
        return None

    def test_late_turns(self):
        task, (s, p, _) = late_tasks()[0]
        most = s + p
        self.refused(TooMany, lambda: order_rows(task, most - 1), most - 1)
        self.same(turn(task, most)[:2], (s, p))

    def test_many_deeds(self):
        loop = [Do("x", "x", "a"), Do("x", "x", "b"), Do("x", "x", "c")] * 7 + [Use("x"), Use("d"), Do("x", "e")]
        task = Task(Program([Make("x")], loop, given="abcde"), 3, Prices(3, 4))
        found = order_rows(task)
        self.same(len(found), 24)
        self.assertEqual(best_order(task)[1].pace, min((told.pace for _, told in found), key=lambda one: one[0] / one[1]))


if __name__ == "__main__":
    unittest.main()
