"""Courses [7]: one right plan with the least price for each number of rounds."""

import random
import unittest

from helping import Helping, strange_values
from loopstow.bench import Bench, play
from loopstow.courses import Course
from loopstow.deeds import Make, Use
from loopstow.errors import BadNumber, NoLoop, TooMany, TwoLoops
from loopstow.loops import row
from loopstow.moves import Forget, Move
from loopstow.needed import needed
from loopstow.prices import Prices
from loopstow.programs import Program
from loopstow.tables import turn
from loopstow.tasks import Task
from plainly import drawn_task, late_tasks, long_endings

FAR = 10 ** 59


def turns(slots=2):
    return Task(Program(loop=[Use("a"), Use("b"), Use("c")], given=["a", "b", "c"]), slots)


class Walk:
    """Goes along a course with the needed names only, and pays its moves."""

    def __init__(self, test, task, course, n, standing):
        self.test, self.task, self.course, self.n = test, task, course, n
        self.standing, self.paid = standing, 0

    def do(self, row, names):
        self.standing = self.standing.only(names)
        self.test.assertIsInstance(row, tuple)
        for move in row:
            self.test.assertIsInstance(move, Move)
            self.test.assertIn(move.name, names)
            self.standing = self.task.after(self.standing, move)
            self.paid += self.task.price_of(move)

    def rows(self, rows, part, deeds, **told):
        self.test.assertIsInstance(rows, tuple)
        self.test.assertEqual(len(rows), len(deeds))
        for index, row in enumerate(rows):
            self.do(row, needed(self.task.program, (part, index), **told))
            self.standing = self.task.after(self.standing, deeds[index])
        self.standing = self.standing.only(needed(self.task.program, (part, len(deeds)), **told))

    def round(self, r):
        self.rows(self.course.moves(self.n, r), "loop", self.task.program.loop, further=r < self.n - 1)

    def whole(self):
        """From the beginning to the end, with all that the course says on the way."""
        program, course, n, same = self.task.program, self.course, self.n, self.test.same
        self.rows(course.head(n), "ahead", program.ahead, first=n > 0)
        for r in range(n):
            self.test.assertEqual(course.standing_at(n, r), self.standing)
            same(course.spent(n, r), self.paid)
            self.round(r)
        same(course.spent(n, n), self.paid)
        tail = course.tail(n)
        self.rows(tail[:-1], "behind", program.behind)
        self.do(tail[-1], program.results)
        self.test.assertLessEqual(set(program.results), set(self.standing.stored))
        return self.paid


class Courses(Helping, unittest.TestCase):
    def test_document(self):
        course = Course(turns())
        self.same(
            [play(turns(), course(5), 5), course.spent(10 ** 20, 10 ** 20), len(course.moves(10 ** 20, 7)),
             course.tail(10 ** 20)],
            [9, 150000000000000000001, 3, ((),)],
        )
        self.assertEqual(course.row, row(turns()))
        self.assertIsInstance(vars(Course)["row"], property)
        for name in "head moves tail standing_at spent __call__".split():
            self.assertIn(name, vars(Course))

    def check(self, task, rounds, most=400):
        course = Course(task, most)
        self.assertEqual(course.row, row(task, most))
        for n in rounds:
            self.same(Walk(self, task, course, n, task.start).whole(), course.row[n])
            plan = course(n)
            self.assertTrue(isinstance(plan, list) and all(isinstance(one, list) for one in plan))
            self.same(play(task, plan, n), course.row[n])
        return course

    def test_drawn(self):
        source = random.Random(91)
        for index in range(150):
            task = drawn_task(source, loops=1, names="abcd" if index % 2 else "abc", most=5)
            course = self.check(task, (0, 1, 2, 3, 4, 9))
            self.far(task, course, FAR + source.randrange(30), source)

    def far(self, task, course, n, source):
        """Rounds far out lead from one to the next."""
        for r in (0, 1, 6, 10 ** 30 + source.randrange(9), n - 12, n - 3, n - 2):
            walk = Walk(self, task, course, n, course.standing_at(n, r))
            spent = course.spent(n, r)
            for more in range(min(3, n - 1 - r)):
                walk.round(r + more)
                self.assertEqual(course.standing_at(n, r + more + 1), walk.standing)
                self.same(course.spent(n, r + more + 1), spent + walk.paid)
        walk = Walk(self, task, course, n, course.standing_at(n, n - 1))
        spent = course.spent(n, n - 1)
        walk.round(n - 1)
        self.same(course.spent(n, n), spent + walk.paid)
        tail = course.tail(n)
        walk.rows(tail[:-1], "behind", task.program.behind)
        walk.do(tail[-1], task.program.results)
        self.assertLessEqual(set(task.program.results), set(walk.standing.stored))
        self.same(spent + walk.paid, course.row[n])
        begun = Walk(self, task, course, n, task.start)
        begun.rows(course.head(n), "ahead", task.program.ahead)
        self.assertEqual(course.standing_at(n, 0), begun.standing)
        self.same(course.spent(n, 0), begun.paid)

    def test_on_a_bench(self):
        """What the course says is done on a bench, with the forgetting of what is not needed."""
        source = random.Random(95)
        for _ in range(40):
            task = drawn_task(source, loops=1, names="abc", most=4)
            course, program = Course(task), task.program
            for n in (0, 1, 3):
                bench = Bench(task, n)
                places = [(("ahead", at), {"first": n > 0}) for at in range(len(program.ahead))]
                rows = list(course.head(n))
                for r in range(n):
                    places += [(("loop", at), {"further": r < n - 1}) for at in range(len(program.loop))]
                    rows += course.moves(n, r)
                places += [(("behind", at), {}) for at in range(len(program.behind) + 1)]
                rows += course.tail(n)
                for (place, told), row in zip(places, rows, strict=True):
                    for name in bench.standing.slots:
                        if name not in needed(program, place, **told):
                            bench.move(Forget(name))
                    for move in row:
                        bench.move(move)
                    if bench.deed is not None:
                        bench.advance()
                self.same([bench.is_right, bench.paid], [True, course.row[n]])

    def test_many_rounds_one_by_one(self):
        """Where the ways come round, the plan is the same as one that is gone round by round."""
        source = random.Random(92)
        for index in range(30):
            task = drawn_task(source, loops=1, names="abcd", most=3)
            course = Course(task, 400)
            n = 60 + source.randrange(20)
            self.same(Walk(self, task, course, n, task.start).whole(), course.row[n])

    def test_ends_that_depend_on_the_last_round(self):
        for text, slots, prices in (
            ("given a b c d;results c d;do d d a;loop;use b;use c;do a b;end;use d a;use c", 3, Prices(2, 5)),
            ("given a b c d;again c 2;results b d;use c a;use a d;do d a c;do b b c;loop;use c;use d;use d;use d a;end;"
             "use b d;use c", 3, Prices(1, 2)),
            ("given a b c d;results d;use d;loop;make b;use a;do c c;use d;end;make c;use d a;do d b;use c d", 3,
             Prices(1, 3)),
        ):
            self.check(Task(Program.read(text.replace(";", "\n")), slots, prices), (1, 2, 3, 4, 7))

    def test_long_endings(self):
        """Plans that depend on how many rounds are to come, also if these are many."""
        for task in long_endings():
            course = Course(task, 400)
            for n in (1, 17, 30, *range(52, 62), 75, 110, 150):
                self.same(Walk(self, task, course, n, task.start).whole(), course.row[n])
            source = random.Random(94)
            for n in (FAR, FAR + 1, FAR + 2):
                self.far(task, course, n, source)
                for r in (n - 70, n - 58, n - 57, n - 56, n - 55, n - 45, n - 40, n - 33):
                    walk = Walk(self, task, course, n, course.standing_at(n, r))
                    walk.round(r)
                    self.assertEqual(course.standing_at(n, r + 1), walk.standing)
                    self.same(course.spent(n, r + 1), course.spent(n, r) + walk.paid)

    def test_empty_loop(self):
        program = Program([Use("a")], [], behind=[Use("b"), Make("a")], given=["a", "b"], results=["a"])
        task = Task(program, 1)
        course = self.check(task, (0, 1, 2, 7), 1)
        self.same([course.moves(FAR, 5), course.spent(FAR, 5), course.spent(FAR, FAR)], [(), 1, 1])
        self.same(course.standing_at(FAR, 0) == course.standing_at(FAR, FAR - 1), True)
        self.same(play(task, course(FAR), FAR), 3)
        self.check(Task(Program(loop=[]), 1), (0, 1, 5))

    def test_results(self):
        """Results that nobody needs, and names that are made anew in each round."""
        for program, prices in (
            (Program([Make("x")], [Make("x"), Use("a")], given=["a"], results=["x", "a"]), Prices(1, 9)),
            (Program([Make("x")], [Make("y"), Use("a", "y")], given=["a", "y"], results=["x"]), Prices(1, 9)),
            (Program(loop=[Make("x"), Make("y"), Use("x")], given=["x"], results=["x"]), Prices(2, 0)),
            (Program(loop=[Use("b")], again={"a": 3, "b": 0}, results=["a", "b"]), Prices(2, 0)),
            (Program(loop=[Use("a"), Use("b")], given=["a", "b"], again={"a": 1}), Prices(0, 0)),
        ):
            for slots in range(program.room, 5):
                self.check(Task(program, slots, prices), (0, 1, 2, 5))

    def test_late_turns(self):
        for task, (s, p, q) in late_tasks():
            self.refused(TooMany, lambda: Course(task, s + p - 1), s + p - 1)
            most = 200 // len(task.program.loop) - 2
            course = self.check(task, (1, most // 2, most), s + p)
            self.far(task, course, FAR, random.Random(1))

    def test_all_deeds(self):
        course = Course(turns())
        self.same(play(turns(), course(66), 66), 100)
        self.refused(TooMany, lambda: course(67), 200)
        self.refused(TooMany, lambda: course(FAR), 200)
        self.same(course.row[67], 102)

    def test_refused(self):
        course = Course(turns())
        for value in strange_values():
            for call in (course, course.head, course.tail):
                self.refused(BadNumber, lambda: call(value), value)
            for call in (course.moves, course.standing_at, course.spent):
                self.refused(BadNumber, lambda: call(value, None), value)
                self.refused(BadNumber, lambda: call(5, value), value)
        for n, r in ((5, 5), (5, 6), (0, 0), (FAR, FAR), (0, FAR)):
            self.refused(BadNumber, lambda: course.moves(n, r), r)
            self.refused(BadNumber, lambda: course.standing_at(n, r), r)
        for n, r in ((5, 6), (0, 1), (FAR, FAR + 1)):
            self.refused(BadNumber, lambda: course.spent(n, r), r)
        self.same([course.spent(n=0, r=0), course.spent(5, 5), len(course.moves(n=5, r=4))], [0, 9, 3])
        self.refused(NoLoop, lambda: Course(Task(Program(), 1)))
        self.refused(TwoLoops, lambda: Course(Task(Program(loop=[], second=[]), 1)))
        self.refused(TooMany, lambda: Course(turns(), 2), 2)
        self.same(turn(turns()), (1, 2, 3))

    def test_true_is_no_round(self):
        course = Course(turns())
        self.refused(BadNumber, lambda: course.spent(1, True), True)
        self.refused(BadNumber, lambda: course.spent(True, 1), True)
        self.refused(BadNumber, lambda: course.spent(0, False), False)

    def test_later_slots(self):
        task = turns(2)
        course = Course(task)
        before = [course.moves(9, 4), course.tail(9), course.head(0), course.spent(9, 9)]
        task.slots = 4
        self.same([course.moves(9, 4), course.tail(9), course.head(0), course.spent(9, 9)], before)
        self.same(play(turns(2), course(9), 9), 15)

    def test_same_each_time(self):
        source = random.Random(93)
        for _ in range(20):
            task = drawn_task(source, loops=1, names="abc")
            one, other = Course(task), Course(task.with_slots(task.slots))
            for n in (FAR, 7, 3, FAR, 7):
                self.same([one.moves(n, 2), one.tail(n), one.head(n)], [other.moves(n, 2), other.tail(n), other.head(n)])


if __name__ == "__main__":
    unittest.main()
