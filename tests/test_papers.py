"""Papers [9]: tables that show the least prices for all numbers of rounds."""

import random
import unittest

from helping import Helping
from loopstow.deeds import Make, Use
from loopstow.errors import NoLoop, TooMany, TwoLoops
from loopstow.floors import shows_least
from loopstow.loops import row
from loopstow.moves import Move
from loopstow.needed import needed
from loopstow.papers import paper
from loopstow.prices import Prices
from loopstow.programs import Program
from loopstow.standings import Standing
from loopstow.straight import least_price
from loopstow.tables import table, to_go, turn
from loopstow.tasks import Task
from plainly import all_reached, at_least, drawn_task, late_tasks, to_the_end


def one():
    return Task(Program(loop=[Use("a"), Use("b")], given=["a", "b"]), 1)


class Papers(Helping, unittest.TestCase):
    def moved(self, task, names, standing, moves):
        """The standing behind moves of needed names, and their price."""
        price = 0
        self.assertIsInstance(moves, tuple)
        for text in moves:
            move = Move.read(text)
            self.assertIn(move.name, names)
            standing = task.after(standing, move)
            price += task.price_of(move)
        return standing, price

    def met(self, task, place, told, start, known, found, least):
        """A table of entries: each one comes about as it says; the numbers are least, if a function tells them.

        The start is a function from the text `before` to the standing behind the deed; known are the numbers there.
        """
        names = needed(task.program, place, **told)
        sound = list(task.standings(place, **told))
        self.same(sorted(found), sorted(str(standing) for standing in sound))
        for standing in sound:
            entry = found[str(standing)]
            self.same([entry.__class__, len(entry)], [tuple, 3])
            number, before, moves = entry
            behind, price = self.moved(task, names, start(before).only(names), moves)
            self.assertTrue(standing <= behind)
            self.same(number, known(before) + price)
            if least is not None:
                self.same(number, least(standing))

    def behind(self, task, deed):
        return lambda before: task.after(Standing.read(before), deed)

    def check(self, task, most=400, searched=True):
        told = paper(task, most)
        self.same([told.__class__, len(told), told[0]], [tuple, 5, turn(task, most)])
        (s, p, q), none, before, rounds, last = told
        self.same(shows_least(task.straight(), least_price(task), none), True)
        self.same([one.__class__ for one in told], [tuple, list, list, list, list])
        self.same([len(before), len(rounds)], [len(task.program.ahead) + 1, s + p])
        self.check_before(task, before, searched)
        self.check_rounds(task, before, rounds, searched)
        self.check_last(task, last, searched)
        known = [before[-1], *[tables[-1] for tables in rounds if tables]]
        if task.program.loop:
            for r, tables in enumerate(known):
                self.same({text: entry[0] for text, entry in tables.items()}, table(task, r))
        self.same({text: entry[0] for text, entry in last[0].items()}, to_go(task))
        return told

    def check_before(self, task, before, searched):
        reached = all_reached(task, None, task.program.ahead) if searched else None
        for at, found in enumerate(before):
            least = (lambda standing, at=at: at_least(reached[at], standing)) if searched else None
            if at == 0:
                self.same({entry[1] for entry in found.values()} == {None}, True)
                self.met(task, ("ahead", 0), {}, lambda _: task.start, lambda _: 0, found, least)
            else:
                known = before[at - 1]
                start = self.behind(task, task.program.ahead[at - 1])
                self.met(task, ("ahead", at), {}, start, lambda text: known[text][0], found, least)

    def check_rounds(self, task, before, rounds, searched):
        loop, known = task.program.loop, before[-1]
        deeds = (*task.program.ahead, *loop * len(rounds))
        reached = all_reached(task, None, deeds) if searched else None
        for r, tables in enumerate(rounds):
            self.same(len(tables), len(loop))
            for index, found in enumerate(tables):
                at = len(task.program.ahead) + r * len(loop) + index + 1
                least = (lambda standing, at=at: at_least(reached[at], standing)) if searched else None
                start = self.behind(task, loop[index])
                self.met(task, ("loop", index + 1), {}, start, lambda text: known[text][0], found, least)
                known = found

    def check_last(self, task, last, searched):
        loop, behind = task.program.loop, task.program.behind
        places = [("loop", at) for at in range(len(loop) + 1)] + [("behind", at) for at in range(1, len(behind) + 1)]
        deeds = (*loop, *behind)
        self.same(len(last), len(places))
        for at, (place, found) in enumerate(zip(places, last)):
            names = needed(task.program, place, further=False)
            sound = list(task.standings(place, further=False))
            self.same(sorted(found), sorted(str(standing) for standing in sound))
            for standing in sound:
                number, moves, text = found[str(standing)]
                ending, price = self.moved(task, names, standing, moves)
                if at == len(deeds):
                    self.assertLessEqual(set(task.program.results), set(ending.stored))
                    self.same([text, number], [None, price])
                else:
                    later = needed(task.program, places[at + 1], further=False)
                    self.assertTrue(Standing.read(text) <= task.after(ending, deeds[at]).only(later))
                    self.same(number, price + last[at + 1][text][0])
                if searched:
                    self.same(number, to_the_end(task, standing, deeds[at:]))

    def test_document(self):
        sheet = paper(one())
        self.same([sheet[0], len(sheet[3])], [(1, 1, 2), 2])
        self.check(one())

    def test_drawn(self):
        source = random.Random(101)
        for _ in range(40):
            self.check(drawn_task(source, loops=1, names="abc", most=3))

    def test_drawn_with_more_names(self):
        source = random.Random(102)
        for _ in range(25):
            self.check(drawn_task(source, loops=1, names="abcde", most=5), searched=False)

    def test_empty_loop(self):
        for program in (
            Program(loop=[]), Program([Use("a")], [], given=["a"]),
            Program([Use("a")], [], behind=[Use("b"), Make("a")], given=["a", "b"], results=["a"]),
        ):
            told = self.check(Task(program, 1, Prices(2, 3)), 1)
            self.same([told[0], told[3]], [(0, 1, 0), [[]]])

    def test_prices_of_nothing(self):
        for prices in (Prices(0, 0), Prices(0, 1), Prices(1, 0), Prices(2, 1, {"a": 0})):
            program = Program([Make("x")], [Use("a"), Make("x")], behind=[Use("x")], given=["a"], results=["x"])
            for slots in (1, 2, 3):
                self.check(Task(program, slots, prices))
        again = Program(loop=[Use("a"), Use("b")], again={"a": 0, "b": 3}, results=["b"])
        self.check(Task(again, 1, Prices(0, 0)))

    def test_late_turns(self):
        for task, (s, p, _) in late_tasks():
            self.refused(TooMany, lambda: paper(task, s + p - 1), s + p - 1)
            told = paper(task, s + p)
            self.same([told[0][:2], len(told[3])], [(s, p), s + p])
            first, last = told[3][s - 1][-1] if s else told[2][-1], told[3][-1][-1]
            gains = {last[text][0] - first[text][0] for text in first}
            self.same(sorted(gains), [told[0][2]])

    def test_row(self):
        """The row follows from the paper."""
        source = random.Random(103)
        for _ in range(30):
            task = drawn_task(source, loops=1, names="abc")
            (s, p, q), none, before, rounds, last = paper(task)
            heads = [before[-1], *[tables[-1] for tables in rounds if tables]]
            for n, head in enumerate(heads, 1):
                self.same(min(head[text][0] + last[0][text][0] for text in head), row(task)[n])
            self.same(min(entry[0] for text, entry in none[-1].items() if text.endswith(
                "/ " + (" ".join(task.program.results) or "-"))), row(task)[0])

    def test_refused(self):
        self.refused(NoLoop, lambda: paper(Task(Program(), 1)))
        self.refused(TwoLoops, lambda: paper(Task(Program(loop=[], second=[]), 1), 1))
        self.refused(TooMany, lambda: paper(one(), 1), 1)
        self.same(paper(task=one(), most=2), paper(one()))

    def test_answers_belong_to_the_caller(self):
        sheet = paper(one())
        for tables in (sheet[1], sheet[2], *sheet[3], sheet[4]):
            for found in tables:
                found.clear()
            tables.clear()
        sheet[3].clear()
        self.same(shows_least(one().straight(), 0, paper(one())[1]), True)
        self.same(len(paper(one())[3]), 2)


if __name__ == "__main__":
    unittest.main()
