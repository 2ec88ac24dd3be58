"""Tables of entries of straight programs, and the look at them."""

import random
import unittest

from helping import Helping, strange_values
from loopstow.deeds import Do, Make, Use
from loopstow.errors import HasLoop, StowError
from loopstow.floors import floors, shows_least
from loopstow.needed import needed
from loopstow.prices import Prices
from loopstow.programs import Program
from loopstow.standings import Standing
from loopstow.straight import least_price
from loopstow.tasks import Task
from plainly import all_reached, drawn_task


def tiny():
    return Task(Program([Use("a")], given=["a"]), 1, Prices(2, 1))


def tiny_tables():
    return [
        {"- / a": (0, None, ()), "a / -": (2, None, ("load a",)), "a / a": (2, None, ("load a",))},
        {"- / -": (2, "a / a", ())},
    ]


def changed(tables, at, text, entry):
    """The tables with one entry otherwise."""
    found = [dict(table) for table in tables]
    found[at][text] = entry
    return found


def done(task, names, standing, moves):
    """The standing behind moves of needed names, and their price."""
    price = 0
    for text in moves:
        if text.split()[1] not in names:
            raise AssertionError(f"{text} moves a name that is not needed")
        move = task_move(text)
        standing = task.after(standing, move)
        price += task.price_of(move)
    return standing, price


def task_move(text):
    from loopstow.moves import Move
    return Move.read(text)


class Floors(Helping, unittest.TestCase):
    def check_tables(self, task, tables):
        """The tables have the numbers of a search over all standings, and each entry comes about as it says."""
        reached = all_reached(task)
        deeds = task.program.ahead
        self.assertIsInstance(tables, list)
        self.same(len(tables), len(deeds) + 1)
        for at, table in enumerate(tables):
            place = ("ahead", at)
            names = needed(task.program, place)
            sound = list(task.standings(place))
            self.same(sorted(table), sorted(str(one) for one in sound))
            for one in sound:
                number, before, moves = table[str(one)]
                least = min(
                    price for (held, kept), price in reached[at].items()
                    if set(one.slots) <= held and set(one.stored) <= kept
                )
                self.same([number, moves.__class__], [least, tuple])
                if at == 0:
                    self.same(before, None)
                    start, known = task.start.only(names), 0
                else:
                    start = task.after(Standing.read(before), deeds[at - 1]).only(names)
                    known = tables[at - 1][before][0]
                behind, price = done(task, names, start, moves)
                self.assertTrue(one <= behind)
                self.same(number, known + price)

    def test_document(self):
        self.same(
            [least_price(tiny()), shows_least(tiny(), 2, tiny_tables()), shows_least(tiny(), 1, tiny_tables())],
            [2, True, False],
        )
        self.check_tables(tiny(), floors(tiny()))

    def test_drawn(self):
        source = random.Random(61)
        for index in range(150):
            task = drawn_task(source, loops=index % 3, names="abc", most=3)
            n, m = source.randrange(3) if index % 3 else 0, source.randrange(2) if index % 3 == 2 else 0
            straight = task.straight(n, m)
            tables = floors(straight)
            self.check_tables(straight, tables)
            price = least_price(straight)
            self.same([shows_least(straight, price, tables), shows_least(straight, price + 1, tables)], [True, False])
            self.same(shows_least(straight, price - 1, tables), False)

    def test_four_names(self):
        source = random.Random(62)
        for _ in range(25):
            task = drawn_task(source, names="abcd", most=5)
            tables = floors(task)
            self.check_tables(task, tables)
            self.same(shows_least(task, least_price(task), tables), True)

    def test_most(self):
        rows = [Make("abcdef"[i % 6]) if i % 5 == 0 else Use("abcdef"[(i * i + i // 7) % 6]) for i in range(200)]
        task = Task(Program(rows, given="abcdef", results="abcdef"), 4, Prices(3, 2))
        tables = floors(task)
        self.same([len(tables), max(len(table) for table in tables) > 400], [201, True])
        self.same(shows_least(task, least_price(task), tables), True)
        self.same(shows_least(task, least_price(task) - 1, tables), False)

    def test_loop(self):
        for program in (Program(loop=[]), Program(loop=[], second=[])):
            task = Task(program, 1)
            self.refused(HasLoop, lambda: floors(task))
            self.refused(HasLoop, lambda: shows_least(task, 0, [{"- / -": (0, None, ())}]))
            self.refused(HasLoop, lambda: shows_least(task, None, None))
        empty = Task(Program(), 1)
        self.same(floors(empty), [{"- / -": (0, None, ())}])
        self.same(shows_least(empty, 0, floors(empty)), True)

    def test_any_values(self):
        tables = tiny_tables()
        for value in [*strange_values(), 2, 0, "- / a", [{}, {}], [{}], tuple(tables), tables[:1], [*tables, {}]]:
            self.same(shows_least(tiny(), 2, value), False)
            if value.__class__ is not int or value != 2:
                self.same(shows_least(tiny(), value, tables), False)
            for at, text in ((0, "a / -"), (1, "- / -")):
                self.same(shows_least(tiny(), 2, changed(tables, at, text, value)), False)
                number, before, moves = tables[at][text]
                if number.__class__ is not value.__class__ or number != value:
                    self.same(shows_least(tiny(), 2, changed(tables, at, text, (value, before, moves))), False)
                if before.__class__ is not value.__class__ or before != value:
                    self.same(shows_least(tiny(), 2, changed(tables, at, text, (number, value, moves))), False)
                if moves.__class__ is not value.__class__ or moves != value:
                    self.same(shows_least(tiny(), 2, changed(tables, at, text, (number, before, value))), False)
                self.same(shows_least(tiny(), 2, changed(tables, at, text, (number, before, (*moves, value)))), False)
            found = [dict(table) for table in tables]
            found[0] = value
            self.same(shows_least(tiny(), 2, found), False)
        for price in (True, 1, 3, "2", 2.0):
            self.same(shows_least(tiny(), price, tables), False)
        flat = Task(Program([Use("a")], given=["a"]), 1, Prices(1, 1))
        one = floors(flat)
        self.same([shows_least(flat, 1, one), shows_least(flat, True, one)], [True, False])
        true = changed(one, 1, "- / -", (True, *one[1]["- / -"][1:]))
        self.same(shows_least(flat, 1, true), False)

    def test_keys(self):
        tables = tiny_tables()
        less = [dict(table) for table in tables]
        del less[0]["a / -"]
        self.same(shows_least(tiny(), 2, less), False)
        for key in ("- / -", "a / a ", None, 0, ("a",), "b / a"):
            self.same(shows_least(tiny(), 2, changed(tables, 0, key, (2, None, ("load a",)))), False)
            self.same(shows_least(tiny(), 2, changed(less, 0, key, (2, None, ("load a",)))), False)

    def test_one_thing_otherwise(self):
        """An entry that is not met, or a number that does not floor."""
        tables = tiny_tables()
        for at, text, entry in (
            (0, "- / a", (1, None, ())), (0, "- / a", (-1, None, ())), (0, "- / a", (2, None, ("load a",))),
            (0, "a / -", (2, None, ())), (0, "a / -", (3, None, ("load a",))), (0, "a / -", (2, None, ("load b",))),
            (0, "a / -", (2, "- / a", ("load a",))), (0, "a / -", (2, None, ("load a", "load a"))),
            (0, "a / -", (2, None, ("load  a",))), (0, "a / a", (4, None, ("load a", "forget a", "load a"))),
            (0, "a / a", (2, None, ("load a", "store a"))), (0, "a / a", (2, None, ["load a"])),
            (0, "a / a", [2, None, ("load a",)]), (0, "a / a", (2, None, ("again a",))),
            (1, "- / -", (2, "- / a", ())), (1, "- / -", (2, None, ())), (1, "- / -", (2, "a / b", ())),
            (1, "- / -", (2, "a / -", ("forget a",))), (1, "- / -", (3, "a / -", ())), (1, "- / -", (1, "a / -", ())),
        ):
            self.same(shows_least(tiny(), 2, changed(tables, at, text, entry)), False)
        for at, text, entry in (
            (0, "a / -", (2, None, ("load a", "forget a", "load a"))), (1, "- / -", (2, "a / -", ())),
            (0, "- / a", (0, None, ("forget a",))),
        ):
            found = changed(tables, at, text, entry)
            self.same(shows_least(tiny(), 2, found), entry[1] == "a / -")
        # No move leads to `a / -`, so nothing asks for its least number but the entries that come from it.
        found = changed(tables, 0, "a / -", (4, None, ("load a", "forget a", "load a")))
        self.same(shows_least(tiny(), 2, found), True)
        # A standing on the way that is not sound, or that has more than is asked.
        free = Task(Program([Use("a")], given=["a"]), 1, Prices(0, 0))
        fine = changed(floors(free), 0, "a / -", (0, None, ("load a", "forget a", "load a")))
        self.same(shows_least(free, 0, fine), True)
        self.same(shows_least(free, 0, changed(fine, 0, "- / a", (0, None, ("load a",)))), True)

    def test_numbers_that_are_too_great(self):
        """Each entry is met, but a move or a deed leads on for less."""
        task = Task(Program([Use("a")], given=["a"]), 1, Prices(2, 1))
        dear = [
            {"- / a": (0, None, ()), "a / -": (2, None, ("load a",)),
             "a / a": (4, None, ("load a", "forget a", "load a"))},
            {"- / -": (4, "a / a", ())},
        ]
        self.same(shows_least(task, 4, dear), False)
        dear[1] = {"- / -": (2, "a / -", ())}
        self.same([shows_least(task, 2, dear), shows_least(task, 4, dear)], [False, False])
        good = floors(task)
        dear = [good[0], {"- / -": (2, "a / -", ())}]
        self.same(shows_least(task, 2, dear), True)
        # A deed leads on for less from a standing that the next table does not come from.
        dear = [dict(tiny_tables()[0]), {"- / -": (4, "a / -", ())}]
        dear[0]["a / -"] = (4, None, ("load a", "forget a", "load a"))
        self.same([shows_least(task, 4, dear), shows_least(task, 2, dear)], [False, False])
        # A standing that is not reached, with all that follows from it.
        cheap = [{"- / a": (0, None, ()), "a / -": (0, None, ()), "a / a": (0, None, ())}, {"- / -": (0, "a / a", ())}]
        self.same(shows_least(task, 0, cheap), False)
        pair = Task(Program([Use("a"), Use("b")], given=["a", "b"]), 2, Prices(1, 1))
        tables = floors(pair)
        far = {text: (number + 1, before, moves) for text, (number, before, moves) in tables[1].items()}
        last = {text: (number + 1, before, moves) for text, (number, before, moves) in tables[2].items()}
        self.same(shows_least(pair, 3, [tables[0], far, last]), False)
        higher = [
            {text: (number + 1, before, moves) for text, (number, before, moves) in table.items()} for table in tables
        ]
        self.same(shows_least(pair, 3, higher), False)
        self.same(shows_least(pair, 2, tables), True)

    def test_names_that_are_not_needed(self):
        """A move of a name that is not needed at the moment is refused, also if it can be done."""
        task = Task(Program([Use("a"), Use("b")], given=["a", "b"], again={"c": 0}), 2, Prices(1, 1))
        tables = floors(task)
        self.same(shows_least(task, 2, tables), True)
        for text, (number, before, moves) in tables[0].items():
            for more in ("again c", "forget c"):
                self.same(shows_least(task, 2, changed(tables, 0, text, (number, before, (*moves, more)))), False)
        number, before, moves = tables[1]["b / b"]
        for more in (("load a",), ("again c", "forget c"), ("forget a",)):
            self.same(shows_least(task, 2, changed(tables, 1, "b / b", (number, before, (*more, *moves)))), False)

    def test_least_result(self):
        """The price is the least number of a standing with all results stored."""
        task = Task(Program([Make("x")], results=["x"]), 1, Prices(1, 4))
        tables = floors(task)
        self.same(sorted(tables[1]), ["- / x", "x / -", "x / x"])
        self.same([tables[1][text][0] for text in sorted(tables[1])], [4, 0, 4])
        self.same([shows_least(task, 4, tables), shows_least(task, 0, tables)], [True, False])

    def test_each_entry_otherwise(self):
        """In the tables of a drawn task, each number that is made otherwise is seen."""
        source = random.Random(63)
        for _ in range(40):
            task = drawn_task(source, names="abc", most=4)
            tables, price = floors(task), least_price(task)
            at = source.randrange(len(tables))
            for text, (number, before, moves) in tables[at].items():
                for more in (1, -1, 10 ** 50):
                    self.same(shows_least(task, price, changed(tables, at, text, (number + more, before, moves))), False)

    def test_again_on_the_way(self):
        """A name is made again, stored and forgotten, though all slots are taken."""
        program = Program([Use("a"), Use("z")], again={"a": 1, "z": 9}, results=["z"])
        task = Task(program, 1, Prices(1, 2))
        tables = floors(task)
        self.check_tables(task, tables)
        self.same(tables[0]["a / z"][0], 12)
        self.same(tables[0]["a / a z"][0], 14)

    def test_same_each_time(self):
        task = Task(Program([Use("a"), Do("x", "b"), Use("a")], given=["a", "b"], results=["x"]), 2)
        self.same(floors(task), floors(task))
        with self.assertRaises(StowError):
            shows_least(Task(Program(loop=[Use("a")], given=["a"]), 1), 0, [])


if __name__ == "__main__":
    unittest.main()
