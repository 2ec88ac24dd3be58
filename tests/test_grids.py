"""Grids: programs with two loops [4, 8, 9, 10]."""

import inspect
import random
import unittest

from helping import Helping, strange_values
from loopstow.deeds import Do, Make, Use
from loopstow.errors import BadNumber, NoLoop, OneLoop, StowError, TooMany
from loopstow.grids import Grid
from loopstow.loops import row
from loopstow.needed import needed
from loopstow.prices import Prices
from loopstow.programs import Program
from loopstow.rows import Row
from loopstow.straight import least_price
from loopstow.tables import turn
from loopstow.tasks import Task
from plainly import drawn_task, late_tasks, plain_least, turning_task


def pair():
    program = Program(
        loop=[Use("a"), Use("b"), Use("c")], second=[Use("c"), Use("d")], given=["a", "b", "c", "d"],
    )
    return Task(program, 2)


def alone(task, ahead, loop, behind):
    """The task of a program with one loop, of deeds of another one."""
    program = task.program
    one = Program(ahead, loop, behind=behind, given=program.given, again=program.again, results=program.results)
    return Task(one, task.slots, task.prices)


def bound(task):
    """The least bound with which the grid of a task is not refused, by the turns of programs with one loop."""
    program = task.program
    # What is needed behind the first loop is the same for any number of rounds of the second one, but for none.
    ends = [(*program.between, *program.second, *program.behind), (*program.between, *program.behind)]
    turns = [turn(alone(task, program.ahead, program.loop, behind), 400) for behind in ends]
    for n in range(sum(turns[0][:2]) + 2):
        ahead = (*program.ahead, *program.loop * n, *program.between)
        turns.append(turn(alone(task, ahead, program.second, program.behind), 400))
    return max(s + p for s, p, _ in turns)


def least_turn(numbers, most):
    """(N, p, q) for lists of numbers at n = 1, 2, ..: the least N, then the least p, found by trying all."""
    for start in range(1, most):
        for period in range(1, most):
            gains = {
                one[n + period] - one[n] for one in numbers for n in range(start - 1, len(one) - period)
            }
            if len(gains) == 1:
                return start, period, gains.pop()
    return None


class Grids(Helping, unittest.TestCase):
    def test_document(self):
        grid = Grid(pair())
        self.same(
            [grid[0, 3], grid[2, 0], grid[2, 1], grid[10 ** 20, 10 ** 20] == grid[10 ** 20, 1], str(grid.down(0)),
             grid.second_turn],
            [2, 4, 5, True, "0 | 2 + 0", (1, 1, 0)],
        )

    def test_class(self):
        for name in ("__getitem__", "along", "down"):
            self.assertIn(name, vars(Grid))
        grid = Grid(task=pair(), most=60)
        self.same([grid.first_turn.__class__, grid.second_turn.__class__], [tuple, tuple])
        self.same(inspect.signature(Grid).parameters["most"].default, 60)
        with self.assertRaises(TypeError):
            iter(grid)
        self.assertNotEqual(grid, 5)

    def test_against_straight_forms(self):
        source = random.Random(501)
        for index in range(120):
            task = drawn_task(source, loops=2, names="abcd" if index % 2 else "abc", most=4)
            grid = Grid(task)
            for n, m in [(0, 0), (0, 1), (1, 0), (1, 1), (0, 7), (7, 0), *[
                (source.randrange(9), source.randrange(9)) for _ in range(8)
            ]]:
                self.same(grid[n, m], least_price(task, n, m))

    def test_against_a_search(self):
        source = random.Random(502)
        for _ in range(25):
            task = drawn_task(source, loops=2, names="abc", most=2)
            grid = Grid(task)
            for n in range(3):
                for m in range(3):
                    self.same(grid[n, m], plain_least(task, n, m))

    def test_rows(self):
        source = random.Random(503)
        for _ in range(40):
            task = drawn_task(source, loops=2, names="abcd", most=4)
            grid = Grid(task)
            for one in (0, 1, 2, 5, 10 ** 30):
                along, down = grid.along(one), grid.down(one)
                self.assertIsInstance(along, Row)
                self.assertIsInstance(down, Row)
                for other in (0, 1, 2, 3, 9, 20, 10 ** 20, 10 ** 20 + 1):
                    self.same([along[other], down[other]], [grid[other, one], grid[one, other]])
                self.same(grid.along(one), along)

    def test_rows_of_one_loop(self):
        """Rows of a grid are those of programs in which the other loop is written out."""
        source = random.Random(504)
        for _ in range(60):
            task = drawn_task(source, loops=2, names="abc", most=3)
            program, grid = task.program, Grid(task)
            for rounds in range(3):
                behind = (*program.between, *program.second * rounds, *program.behind)
                self.assertEqual(grid.along(rounds), row(alone(task, program.ahead, program.loop, behind), 400))
                ahead = (*program.ahead, *program.loop * rounds, *program.between)
                self.assertEqual(grid.down(rounds), row(alone(task, ahead, program.second, program.behind), 400))

    def test_equal_loops(self):
        source = random.Random(505)
        for _ in range(40):
            task = drawn_task(source, loops=1, names="abcd", most=4)
            program = task.program
            two = Program(
                program.ahead, program.loop, (), program.loop, program.behind,
                given=program.given, again=program.again, results=program.results,
            )
            grid, told = Grid(Task(two, task.slots, task.prices)), row(task)
            for n in range(5):
                self.assertEqual(grid.down(n), told >> n)
                self.assertEqual(grid.along(n), told >> n)
            self.same(grid[10 ** 40, 10 ** 41 + 7], told[11 * 10 ** 40 + 7])

    def test_turns(self):
        source = random.Random(506)
        for index in range(80):
            task = drawn_task(source, loops=2, names="abcd" if index % 2 else "abc", most=4)
            self.turns_are_least(Grid(task))

    def test_turns_of_several_rounds(self):
        """Loops that use names in turn: their least plans differ from round to round."""
        source = random.Random(509)
        periods = {}
        for _ in range(120):
            task = turning_task(source, 2)
            grid = Grid(task)
            self.turns_are_least(grid, 30)
            periods[grid.first_turn[1], grid.second_turn[1]] = True
            program = task.program
            edge = row(alone(task, program.ahead, program.loop, (*program.between, *program.behind)), 400)
            self.assertEqual(grid.along(0), edge)
            self.assertEqual(grid.down(0) >> 1, row(alone(
                task, (*program.ahead, *program.between), program.second, program.behind), 400) >> 1)
            for _ in range(4):
                n, m = source.randrange(1, 7), source.randrange(1, 7)
                self.same(grid[n, m], least_price(task, n, m))
        for text, prices, told in (
            ("given a b c d e\nuse e\nloop\nuse b\nuse d\nuse a\nuse c\nuse e\nend\nuse d\nuse a\nsecond\nend", None, (1, 4, 10)),
            ("given a b c d e\nloop\nuse c\nuse e\nuse d\nuse b\nuse a\nend\nuse b\nuse e\nsecond\nuse d\nuse e\nend\n"
             "use b\nuse e", Prices(5, 1, {"d": 2}), (2, 4, 44)),
            ("given a b c d e\ndo a c\nloop\nuse e\nuse b\nuse c\nuse a\nuse d\nend\nuse e\nuse b\nsecond\nuse d\nuse a\nend\n"
             "use d\nmake c", None, (6, 4, 10)),
            # The tables turn later, and after twice as many rounds.
            ("given a b c e\nagain d 2\nuse d\nuse e\nloop\nuse c\nuse b\nuse a\nuse e\nuse d\nend\nsecond\nuse b\nend", None,
             (6, 2, 5)),
            ("given a b c d e\nuse e\nuse d\nloop\nuse e\nuse d\nuse b\nuse a\nuse c\nend\nsecond\nend\nuse e\nuse b", None,
             (1, 2, 5)),
            ("given a b d e\nagain c 2\nuse b\nuse d\nloop\nuse c\nuse d\nuse b\nuse a\nuse e\nend\nsecond\nend\nuse a\nuse d",
             None, (8, 2, 5)),
        ):
            grid = Grid(Task(Program.read(text), 3, prices))
            self.same(grid.first_turn, told)
            self.turns_are_least(grid, 30)
        for shape in ((1, 1), (1, 2), (2, 1), (1, 3), (3, 1)):
            self.assertIn(shape, periods)

    def turns_are_least(self, grid, far=24):
        for told, at in ((grid.first_turn, lambda n, m: grid[n, m]), (grid.second_turn, lambda m, n: grid[n, m])):
            N, p, q = told
            many = max(far, 2 * N + 3 * p)
            if many < 70:
                near = range(1, many)
                self.same(told, least_turn([[at(n, m) for n in near] for m in range(1, far)], many // 2))
            for other in (1, 2, 3, 10 ** 20):
                self.same({at(n + p, other) - at(n, other) for n in range(N, N + 2 * p + 2)} == {q}, True)
        for n, m in ((10 ** 20, 1), (1, 10 ** 20), (10 ** 20, 10 ** 21), (10 ** 30 + 1, 10 ** 30)):
            _, p, q = grid.first_turn
            self.same(grid[n + p, m] - grid[n, m], q if n >= grid.first_turn[0] else grid[n + p, m] - grid[n, m])
            _, p, q = grid.second_turn
            self.same(grid[n, m + p] - grid[n, m], q if m >= grid.second_turn[0] else grid[n, m + p] - grid[n, m])

    def test_turns_from_far_out(self):
        """The tables of the first loop turn late; and otherwise with rounds of the second one than without."""
        seen = 0
        for task, (s, p, q) in late_tasks()[:2]:
            program = task.program
            for between, second in (([], []), ([], [Use("e")]), ([Use("e")], [Use("e"), Use("b")])):
                try:
                    two = Task(Program(
                        program.ahead, program.loop, between, second, program.behind,
                        given=program.given, again=program.again, results=program.results,
                    ), task.slots, task.prices)
                except StowError:
                    continue
                seen += 1
                ends = [(*between, *second, *program.behind), (*between, *program.behind)]
                least = max(sum(turn(alone(two, program.ahead, program.loop, end), 400)[:2]) for end in ends)
                self.refused(TooMany, lambda: Grid(two, least - 1), least - 1)
                grid = Grid(two, least)
                for n, m in ((0, 0), (1, 0), (30, 0), (0, 3), (1, 1), (s, 2), (s + p, 2), (s + 2 * p, 1), (30, 0)):
                    if len(program.ahead) + n * len(program.loop) + 2 * m + len(program.behind) < 200:
                        self.same(grid[n, m], least_price(two, n, m))
                N, period, gain = grid.first_turn
                for m in (1, 2, 3, 10 ** 9):
                    for n in (N, N + 1, N + 7, 10 ** 12):
                        self.same(grid[n + period, m], grid[n, m] + gain)
                if N > 1:
                    broken = [m for m in range(1, 30) if grid[N - 1 + period, m] != grid[N - 1, m] + gain]
                    self.assertNotEqual(broken, [])
        self.assertGreater(seen, 2)

    def test_bounds(self):
        """Not refused from the greatest turn of all on, with and without rounds of the other loop."""
        source = random.Random(507)
        differing = 0
        for _ in range(60):
            task = drawn_task(source, loops=2, names="abcd", most=4)
            least = bound(task)
            program = task.program
            with_rounds = turn(alone(task, program.ahead, program.loop, (
                *program.between, *program.second, *program.behind)))
            without = turn(alone(task, program.ahead, program.loop, (*program.between, *program.behind)))
            differing += with_rounds != without
            self.same(Grid(task, least)[5, 5], least_price(task, 5, 5))
            if least > 1:
                self.refused(TooMany, lambda: Grid(task, least - 1), least - 1)
        self.assertGreater(differing, 0)

    def test_bounds_with_and_without_rounds(self):
        """One of the two turns of the first loop is later than all others."""
        for text, slots, prices, turns in (
            ("given a b c d\nagain a 2\ndo d d\ndo b d\ndo b c\nloop\nuse a b\nuse a b\ndo b c\nend\nsecond\nuse c\n"
             "use b d a\nuse a d b\nuse c\ndo c a d\nend\ndo c c", 3, Prices(2, 1, {"c": 0, "d": 5}), ((4, 1, 0), (1, 1, 0))),
            ("given b c d\nagain c 3\nresults b\nmake e\ndo b c\nmake a\nuse a\nloop\nuse d c\nuse c\nuse a\nend\nsecond\n"
             "do a e\nmake b\ndo a c\nend\ndo d b e\nuse a e c\nuse b e", 4, Prices(1, 5), ((1, 1, 0), (4, 1, 0))),
        ):
            program = Program.read(text)
            task = Task(program, slots, prices)
            ends = ((*program.second, *program.behind), program.behind)
            self.same(tuple(turn(alone(task, program.ahead, program.loop, end)) for end in ends), turns)
            self.same(bound(task), 5)
            self.refused(TooMany, lambda: Grid(task, 4), 4)
            for n in range(7):
                for m in range(4):
                    self.same(Grid(task, 5)[n, m], least_price(task, n, m))
            for m, end in enumerate((ends[1], ends[0])):
                self.assertEqual(Grid(task, 5).along(m), row(alone(task, program.ahead, program.loop, end)))
            self.turns_are_least(Grid(task, 5))

    def test_needed_names(self):
        """With rounds of the second loop and without them other names are needed around the loops."""
        program = Program(
            [Make("x"), Make("y")], [Use("a")], [Make("y")], [Use("x"), Do("y", "y")], [Use("y")], given=["a"],
        )
        task = Task(program, 2, Prices(1, 5))
        for place, told, names in (
            (("ahead", 2), {}, ("a", "x")), (("ahead", 2), {"second": False}, ("a",)), (("ahead", 2), {"first": False}, ("x",)),
            (("loop", 1), {"further": False, "second": False}, ()), (("between", 0), {}, ("x",)),
            (("between", 1), {"second": False}, ("y",)), (("second", 1), {}, ("x", "y")), (("second", 1), {"further": False}, ("y",)),
            (("second", 2), {"further": False}, ("y",)),
        ):
            self.same(needed(program, place, **told), names)
        grid = Grid(task)
        for n in range(5):
            for m in range(5):
                self.same(grid[n, m], plain_least(task, n, m))

    def test_no_rounds(self):
        task = Task(Program([Use("a")], [Use("b")], [Use("c")], [Use("d")], [Use("a")], given="abcd"), 1, Prices(3, 1))
        grid = Grid(task)
        self.same([grid[0, 0], grid[1, 0], grid[0, 1], grid[1, 1], grid[9, 9]], [9, 12, 12, 15, 15])
        self.same([str(grid.along(0)), str(grid.down(0)), grid.first_turn, grid.second_turn],
                  ["9 | 12 + 0", "9 | 12 + 0", (1, 1, 0), (1, 1, 0)])

    def test_empty_loops(self):
        for loop, second in (([], []), ([Use("a"), Use("b")], []), ([], [Use("a"), Use("b")])):
            task = Task(Program([Use("b")], loop, [], second, [Use("a")], given=["a", "b"]), 1)
            grid = Grid(task)
            for n in range(4):
                for m in range(4):
                    self.same(grid[n, m], least_price(task, n, m))
            self.turns_are_least(grid)
        self.same([Grid(task, 2)[10 ** 59, 0], Grid(task, 2)[10 ** 59, 10 ** 59]], [2, 2 * 10 ** 59 + 2])

    def test_wrong_numbers(self):
        grid = Grid(pair())
        for value in [*strange_values(), 1.5]:
            if value.__class__ is not int or value < 0:
                self.refused(BadNumber, lambda: grid[value, -1], value)
                self.refused(BadNumber, lambda: grid[0, value], value)
                self.refused(BadNumber, lambda: grid.along(value), value)
                self.refused(BadNumber, lambda: grid.down(value), value)
            if value.__class__ is not tuple or len(value) != 2:
                self.refused(BadNumber, lambda: grid[value], value)
        self.refused(BadNumber, lambda: grid[3], 3)
        self.refused(BadNumber, lambda: grid[1, 2, 3], (1, 2, 3))
        self.refused(BadNumber, lambda: grid[(1,)], (1,))
        self.refused(BadNumber, lambda: grid["a", "b"], "a")
        self.refused(BadNumber, lambda: grid[True, 1], True)
        self.same(grid.along(m=1)[2] + grid.down(n=2)[1], 10)

    def test_refused(self):
        self.refused(NoLoop, lambda: Grid(Task(Program(), 1)))
        self.refused(NoLoop, lambda: Grid(Task(Program(), 1), 1))
        self.refused(OneLoop, lambda: Grid(Task(Program(loop=[Use("a")], given=["a"]), 1), 1))
        self.refused(TooMany, lambda: Grid(pair(), 1), 1)

    def test_later_slots(self):
        task = pair()
        grid = Grid(task)
        task.slots = 4
        self.same([grid[2, 1], Grid(task)[2, 1]], [5, 4])

    def test_large(self):
        source = random.Random(508)
        rows = [[Use(*source.sample("abcdef", source.choice((1, 2)))) for _ in range(24)] for _ in range(4)]
        program = Program(rows[0], rows[1], rows[2][:12], rows[3], [Use("a")], given="abcdef", results="bc")
        task = Task(program, 4, Prices(3, 5, {"a": 4}))
        grid = Grid(task)
        for n, m in ((0, 0), (1, 0), (0, 1), (2, 3), (3, 1)):
            self.same(grid[n, m], least_price(task, n, m))


if __name__ == "__main__":
    unittest.main()
