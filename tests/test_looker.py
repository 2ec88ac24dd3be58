"""Those who look at papers [9]."""

import random
import unittest

from helping import Helping, strange_values
from loopstow.deeds import Make, Use
from loopstow.errors import NoLoop, TwoLoops
from loopstow.looker import shows_row
from loopstow.loops import row
from loopstow.papers import paper
from loopstow.prices import Prices
from loopstow.programs import Program
from loopstow.rows import Row
from loopstow.tasks import Task
from plainlook import Look, changed_at, part_at, places_in, spoiled
from plainly import drawn_task, late_tasks


def one():
    return Task(Program(loop=[Use("a"), Use("b")], given=["a", "b"]), 1)


def rich():
    """A task with deeds in all parts, an again name and a result."""
    ahead = [Make("x"), Use("b")]
    program = Program(ahead, [Use("a"), Make("x")], behind=[Use("x")], given=["a", "b"], again={"b": 2}, results=["x"])
    return Task(program, 1, Prices(2, 3))


def bare():
    """A task with standings at the end to which nothing leads."""
    return Task(Program(loop=[Use("a")], given=["a"], again={"x": 1}, results=["x"]), 1, Prices(2, 3))


class Looker(Helping, unittest.TestCase):
    def test_document(self):
        sheet = paper(one())
        told = [sheet[0], len(sheet[3]), shows_row(one(), row(one()), sheet), shows_row(one(), Row.even(0, 1), sheet)]
        self.same(told, [(1, 1, 2), 2, True, False])

    def test_right_papers(self):
        source = random.Random(301)
        for index in range(60):
            task = drawn_task(source, loops=1, names="abcde" if index % 2 else "abc", most=4)
            self.same(shows_row(task, row(task), paper(task)), True)
            self.same(shows_row(task=task, row=row(task) + 1, paper=paper(task)), False)
        for task, (s, p, _) in late_tasks():
            self.same(shows_row(task, row(task, s + p), paper(task, s + p)), True)

    def test_spoiled_papers(self):
        """Held against a plain look, both at the row and at papers with one part exchanged."""
        source = random.Random(302)
        shown = 0
        for _ in range(40):
            task = drawn_task(source, loops=1, names=source.choice(["ab", "abc"]), most=3)
            look, sheet, told = Look(task), paper(task), row(task)
            self.same(look.shows_row(told, sheet), True)
            for _ in range(12):
                bad = spoiled(source, sheet)
                self.same(shows_row(task, told, bad), look.shows_row(told, bad))
                shown += shows_row(task, told, bad)
            for other in (told + 1, told >> 1, told.every(2), -told, told & Row.even(3, 0), Row.even(*told.pace)):
                self.same(shows_row(task, other, sheet), look.shows_row(other, sheet))
        self.assertGreater(shown, 0)

    def test_each_number(self):
        """No number of a paper may be another one."""
        for task in (one(), rich(), bare()):
            sheet, told = paper(task), row(task)
            numbers = [path for path in places_in(sheet) if isinstance(part_at(sheet, path), int)]
            self.assertGreater(len(numbers), 20)
            for path in numbers:
                for more in (1, -1):
                    bad = changed_at(sheet, path, part_at(sheet, path) + more)
                    self.same(shows_row(task, told, bad), False)
                for other in (True, None, str(part_at(sheet, path)), (part_at(sheet, path),)):
                    self.same(shows_row(task, told, changed_at(sheet, path, other)), False)

    def test_each_kind(self):
        """No part of a paper may be of another kind, and no table may have a key more or fewer."""
        for task in (one(), rich()):
            sheet, told = paper(task), row(task)
            for path in places_in(sheet):
                part = part_at(sheet, path)
                if isinstance(part, list):
                    self.same(shows_row(task, told, changed_at(sheet, path, tuple(part))), False)
                    self.same(shows_row(task, told, changed_at(sheet, path, [*part, *part[-1:], {}])), False)
                elif isinstance(part, tuple) and path:
                    self.same(shows_row(task, told, changed_at(sheet, path, list(part))), False)
                elif isinstance(part, dict):
                    key = sorted(part)[0]
                    less = {text: part[text] for text in part if text != key}
                    for bad in (less, {**part, "": part[key]}, {**less, 0: part[key]}, list(part), None, {}):
                        self.same(shows_row(task, told, changed_at(sheet, path, bad)), False)

    def test_any_values(self):
        task = one()
        sheet, told = paper(task), row(task)
        for value in [*strange_values(), *sheet, sheet[:4], (*sheet, 0), list(sheet)]:
            self.same(shows_row(task, told, value), False)
            self.same(shows_row(task, value, sheet), False)
            for at in range(5):
                self.same(shows_row(task, told, changed_at(sheet, (at,), value)), value == sheet[at])
        for turn in ((1, 0, 2), (0, 1, 2), (1, 1, -2), (1, 1, 2, 0), (1, True, 2), (2, 0, 2), (10 ** 59, 1, 2), (-1, 3, 2)):
            self.same(shows_row(task, told, changed_at(sheet, (0,), turn)), False)

    def test_rows_that_turn_otherwise(self):
        """A later start or another period than that of the paper."""
        three = Task(Program(loop=[Use("a"), Use("b"), Use("c")], given=["a", "b", "c"]), 2)
        sheet, told = paper(three), row(three)
        self.same([sheet[0], str(told)], [(1, 2, 3), "0 | 3 4 + 3"])
        for numbers, period, step, fine in (
            ([0, 3, 4], 2, 3, True), ([0, 3, 4, 6, 7, 9, 10], 4, 6, True), ([0, 3, 4, 6, 8, 9], 2, 3, False),
            ([0, 3, 4, 6, 7, 9, 11], 2, 3, False), ([0, 3, 4, 6, 7], 2, 4, False), ([0, 3, 4, 6, 7, 10], 3, 5, False),
            ([0, 3, 4, 6], 1, 1, False), ([1, 3, 4], 2, 3, False), ([0, 3, 4], 2, 4, False), ([0, 3, 4, 6], 1, 2, False),
            ([0, 3, 4, 6, 7, 9, 11, 12], 4, 6, False), ([0, 3, 4, 6, 7, 9, 10, 12, 14], 2, 3, False),
        ):
            other = Row(numbers, period, step)
            self.same([shows_row(three, other, sheet), Look(three).shows_row(other, sheet)], [fine, fine])
        # A paper may go on for longer than the turn: with twice its period.
        longer = ((1, 4, 6), sheet[1], sheet[2], [*sheet[3], *self.more_rounds(three, sheet, 2)], sheet[4])
        self.same([shows_row(three, told, longer), Look(three).shows_row(told, longer)], [True, True])
        self.same(shows_row(three, Row.even(0, 2), longer), False)
        later = ((3, 2, 3), *longer[1:])
        self.same([shows_row(three, told, later), Look(three).shows_row(told, later)], [True, True])
        odd = ((2, 3, 5), *longer[1:])
        self.same(shows_row(three, told, odd), False)

    def more_rounds(self, task, sheet, count):
        """The tables of further rounds, as the turn tells them."""
        (s, p, q), _, _, rounds, _ = sheet
        raised = lambda table: {text: (number + q, before, moves) for text, (number, before, moves) in table.items()}
        rounds = list(rounds)
        found = []
        for _ in range(count):
            found.append([raised(table) for table in rounds[len(rounds) - p]])
            rounds.append(found[-1])
        return found

    def test_tables_that_do_not_come_round(self):
        """The row comes round ahead of the tables: a paper that ends there tells all numbers right, and is refused."""
        for task, (s, p, q) in late_tasks():
            _, none, before, rounds, last = paper(task, s + p)
            told = row(task, s + p)
            early = max(0, told.start - 1)
            self.assertLess(early, s)
            self.same(shows_row(task, told, ((early, p, q), none, before, rounds[:early + p], last)), False)

    def test_turns_of_no_rounds(self):
        """A period of 0 shows nothing; neither does a turn with a period that is not one of the row."""
        sheet = paper(one())
        for r in range(3):
            bad = ((r, 0, 0), sheet[1], sheet[2], sheet[3][:r], sheet[4])
            self.same([shows_row(one(), row(one()), bad), Look(one()).shows_row(row(one()), bad)], [False, False])
        held = Task(Program(loop=[Use("a"), Use("b"), Use("c")], given=["a", "b", "c"]), 3)
        sheet, (s, p, q) = paper(held), paper(held)[0]
        self.same([p, q, str(row(held))], [1, 0, "0 | 3 + 0"])
        other = Row([0, *[3] * (s + 2)], 2, 1)
        self.assertLessEqual(other.start, s + 1)
        self.same([shows_row(held, row(held), sheet), shows_row(held, other, sheet)], [True, False])

    def test_other_entries(self):
        """Entries without their moves, with a detour, or from and to other standings, where moves may cost nothing."""
        source = random.Random(303)
        shown, refused = 0, 0
        for index in range(14):
            task = drawn_task(source, loops=1, names="ab", most=2)
            if index % 2:
                task = Task(task.program, task.slots, Prices(0, index % 4 // 2, {"a": 0}))
            look, sheet, told = Look(task), paper(task), row(task)
            for path in places_in(sheet):
                entry = part_at(sheet, path)
                if not path or path[0] < 2 or len(sheet[3]) > 3:
                    continue
                if not isinstance(entry, tuple) or len(entry) != 3 or not isinstance(entry[0], int):
                    continue
                for other in self.other_entries(task, source, path, entry):
                    bad = changed_at(sheet, path, other)
                    found = shows_row(task, told, bad)
                    self.same(found, look.shows_row(told, bad))
                    shown, refused = shown + found, refused + (not found)
        self.assertGreater(min(shown, refused), 100)

    def other_entries(self, task, source, path, entry):
        """Entries of the same form as one of a paper."""
        to_go = path[0] == 4
        number, moves, text = entry if to_go else (entry[0], entry[2], entry[1])
        form = lambda number, moves, text: (number, moves, text) if to_go else (number, text, moves)
        detour = source.choice(["a", "b"])
        price = task.prices.load_of(detour)
        texts = [str(one) for one in task.standings(("loop", 0))]
        return [
            form(number, (), text), form(number, moves[:-1], text), form(number, moves[1:], text),
            form(number, moves[::-1], text), form(number, moves, source.choice(texts)), form(number, moves, None),
            form(number + price, (f"forget {detour}", f"load {detour}", *moves), text),
            form(number + price, (*moves, f"forget {detour}", f"load {detour}"), text),
            form(number + task.prices.store, (f"store {detour}", *moves), text),
            form(number + task.prices.store, (*moves, f"store {detour}"), text), form(number, (f"forget {detour}", *moves), text),
        ]

    def test_empty_loop(self):
        program = Program([Use("a")], [], behind=[Use("b"), Make("a")], given=["a", "b"], results=["a"])
        task = Task(program, 1, Prices(2, 3))
        sheet, told = paper(task), row(task)
        self.same([sheet[0], sheet[3], shows_row(task, told, sheet)], [(0, 1, 0), [[]], True])
        for turn, rounds, fine in (
            ((0, 1, 0), [[]], True), ((1, 1, 0), [[], []], True), ((0, 2, 0), [[], []], True), ((0, 1, 1), [[]], False),
            ((0, 1, 0), [[sheet[2][-1]]], False), ((0, 1, 0), [[], []], False), ((0, 1, 0), [()], False),
            ((0, 1, 0), [None], False), ((0, 1, 0), [], False),
        ):
            bad = (turn, sheet[1], sheet[2], rounds, sheet[4])
            self.same([shows_row(task, told, bad), Look(task).shows_row(told, bad)], [fine, fine])

    def test_arguments_stay(self):
        task = one()
        sheet, told = paper(task), row(task)
        self.same(shows_row(task, told, sheet), True)
        self.same(sheet, paper(task))
        task.slots = 2
        self.same(shows_row(task, told, sheet), False)

    def test_refused(self):
        for value in (None, row(one())):
            self.refused(NoLoop, lambda: shows_row(Task(Program(), 1), value, None))
            self.refused(TwoLoops, lambda: shows_row(Task(Program(loop=[], second=[]), 1), value, paper(one())))


if __name__ == "__main__":
    unittest.main()
