"""Tasks: slots, what moves and deeds do, sound standings."""

import itertools
import random
import unittest

from helping import Helping, strange_values
from loopstow.deeds import Do, Make, Use
from loopstow.errors import BadNumber, BadPlace, BadSlots, Barred, NoLoop, NoRoom, TooMany
from loopstow.moves import Again, Forget, Load, Move, Store
from loopstow.needed import needed
from loopstow.prices import Prices
from loopstow.programs import Program
from loopstow.standings import Standing
from loopstow.tasks import Task
from plainly import behind_deed, drawn_task, moves_from

BOTH = (True, False)
GIVEN = ["a", "b", "c", "d", "e", "f"]


def turns():
    return Program(loop=[Use("a"), Use("b"), Use("c")], given=["a", "b", "c"])


def subsets(names):
    return [rest for size in range(len(names) + 1) for rest in itertools.combinations(names, size)]


def plain_standings(task, names):
    """All sound standings, by the words of the document."""
    found = []
    for slots in subsets(names):
        for stored in subsets(names):
            fine = all(name in slots or name in stored or name in task.program.again for name in names)
            if len(slots) <= task.slots and fine:
                found.append((slots, stored))
    return [Standing(*sides) for sides in sorted(found)]


class Made(Helping, unittest.TestCase):
    def test_document(self):
        task = Task(turns(), 2)
        self.same([str(one) for one in task.standings(("loop", 0))][:3], ["- / a b c", "a / a b c", "a / b c"])
        self.same(str(task.after(Standing(["a", "b"], ["c"]), Use("b", "a"))), "a b / c")
        self.same(Standing(["a"], []) <= Standing(["a", "b"], ["a"]), True)
        self.refused(Barred, lambda: task.after(Standing(["a", "b"], ["c"]), Move.read("load c")), "full", "c")
        with self.assertRaises(BadSlots) as told:
            task.slots = 9
        self.same(told.exception.value, 9)

    def test_fields(self):
        task = Task(turns(), 2)
        self.assertEqual(task.program, turns())
        self.assertEqual(task.prices, Prices(1, 1))
        self.assertEqual(task.start, Standing([], ["a", "b", "c"]))
        self.same(task.slots, 2)
        self.assertEqual(Task(turns(), prices=Prices(2, 3), slots=1).prices, Prices(2, 3))
        for name in "set_slots with_slots after price_of standings straight __eq__".split():
            self.assertIn(name, vars(Task))
        self.assertIsInstance(vars(Task)["slots"], property)

    def test_slots(self):
        for value in [*strange_values(), 0, 5, 10 ** 40]:
            self.refused(BadSlots, lambda: Task(turns(), value), value)
        for slots in (1, 2, 3, 4):
            self.same(Task(turns(), slots).slots, slots)

    def test_no_room(self):
        wide = Program([Use("a")], [Use("a", "b"), Do("c", "a", "b")], given=["a", "b"], behind=[Do("c", "b", "a")])
        self.refused(NoRoom, lambda: Task(wide, 1), ("loop", 0))
        self.refused(NoRoom, lambda: Task(wide, 2), ("loop", 1))
        self.same(Task(wide, 3).slots, 3)
        self.refused(NoRoom, lambda: Task(Program([Do("a", "b", "c", "d")], given=["b", "c", "d"]), 3), ("ahead", 0))
        double = Program(loop=[], between=[Use("a", "b")], second=[Do("c", "a", "b")], given=["a", "b"])
        self.refused(NoRoom, lambda: Task(double, 1), ("between", 0))
        self.refused(NoRoom, lambda: Task(double, 2), ("second", 0))
        self.refused(BadSlots, lambda: Task(double, 0), 0)
        # No room is told ahead of too many standings.
        deeds = [Use("a"), Use("b"), Use("c"), Use("d"), Use("e"), Use("f", "a")]
        self.refused(NoRoom, lambda: Task(Program(deeds, again={name: 1 for name in GIVEN}), 1), ("ahead", 5))

    def test_set_slots(self):
        wide = Program([Use("a", "b")], given=["a", "b"])
        task = Task(wide, 2, Prices(3, 4))
        self.same([task.set_slots(3), task.slots], [None, 3])
        task.slots = 4
        self.same(task.slots, 4)
        for value in [*strange_values(), 0, 5]:
            self.refused(BadSlots, lambda: task.set_slots(value), value)
            self.refused(BadSlots, lambda: setattr(task, "slots", value), value)
            self.refused(BadSlots, lambda: task.with_slots(value), value)
        for call in (lambda: task.set_slots(1), lambda: setattr(task, "slots", 1), lambda: task.with_slots(1)):
            self.refused(NoRoom, call, ("ahead", 0))
        self.same(task.slots, 4)
        other = task.with_slots(2)
        self.same([other.slots, task.slots, other == Task(wide, 2, Prices(3, 4))], [2, 4, True])
        again = {name: 1 for name in "abcde"}
        many = Task(Program([Use(name) for name in "abcde"], again=again), 2)
        self.same(len(list(many.standings(("ahead", 0)))), 512)
        for call in (lambda: many.set_slots(3), lambda: setattr(many, "slots", 3), lambda: many.with_slots(3)):
            self.refused(TooMany, call, 600)
        self.same(many.slots, 2)

    def test_equal(self):
        task = Task(turns(), 2)
        self.same([task == Task(turns(), 2), task == Task(turns(), 2, Prices(1, 1, {"a": 1}))], [True, True])
        for other in (Task(turns(), 3), Task(turns(), 2, Prices(1, 2)), Task(Program(), 2), turns(), None, 2):
            self.same([task == other, task != other], [False, True])
        task.set_slots(3)
        self.same([task == Task(turns(), 3), task == Task(turns(), 2)], [True, False])

    def test_straight(self):
        task = Task(turns(), 2, Prices(1, 5))
        self.assertEqual(task.straight(2), Task(turns().straight(2), 2, Prices(1, 5)))
        self.assertEqual(task.straight().program, turns().straight())
        self.assertEqual(task.straight(m=0, n=66).program, turns().straight(66))
        self.refused(TooMany, lambda: task.straight(67), 200)
        self.refused(NoLoop, lambda: task.straight(1, 1))
        for value in strange_values():
            self.refused(BadNumber, lambda: task.straight(value, None), value)
            self.refused(BadNumber, lambda: task.straight(1, value), value)


class Sound(Helping, unittest.TestCase):
    def test_against_the_words(self):
        source = random.Random(21)
        for index in range(60):
            task = drawn_task(source, loops=index % 3)
            for place in task.program.places():
                for first, further, second in itertools.product(BOTH, BOTH, BOTH):
                    told = {"first": first, "further": further, "second": second}
                    got = list(task.standings(place, **told))
                    self.assertEqual(got, plain_standings(task, needed(task.program, place, **told)))

    def test_all_rounds_are_to_come(self):
        fall = Task(Program([Make("x"), Use("a")], [Make("x")], behind=[Use("x")], given=["a"]), 1)
        self.same([str(one) for one in fall.standings(("ahead", 1))], ["- / a", "a / -", "a / a"])
        self.same([str(one) for one in fall.standings(("loop", 1))], ["- / -"])
        self.same([str(one) for one in fall.standings(("loop", 1), further=False)], ["- / x", "x / -", "x / x"])

    def test_told_as_a_rule(self):
        """If nothing is said of them, all rounds are to come."""
        loops = ([Make("x"), Use("x")], [Use("b")])
        program = Program([Use("a")], loops[0], [Use("x")], loops[1], [Use("x")], given=["a", "b", "x"])
        task = Task(program, 2)
        for place, text in (
            (("ahead", 0), "- / a b"), (("ahead", 1), "- / b"), (("loop", 2), "- / b"), (("between", 1), "- / b x"),
            (("second", 1), "- / b x"),
        ):
            self.same(str(next(task.standings(place))), text)
        for place, told, text in (
            (("ahead", 1), {"first": False}, "- / b x"), (("ahead", 1), {"second": False}, "- / -"),
            (("loop", 2), {"further": False}, "- / b x"), (("second", 1), {"further": False}, "- / x"),
            (("between", 1), {"second": False}, "- / x"), (("loop", 0), {"second": False}, "- / -"),
        ):
            self.same(str(next(task.standings(place, **told))), text)

    def test_names_in_order(self):
        program = Program([Use("ab"), Use("a"), Use("b")], given=["a", "ab", "b"])
        found = [(one.slots, one.stored) for one in Task(program, 3).standings(("ahead", 0))]
        self.assertEqual(found, sorted(found))
        self.same(len(found), 27)

    def test_refused(self):
        task = Task(turns(), 2)
        for place in [*strange_values(), ("loop", 4), ("second", 0), ["loop", 0]]:
            waiting = task.standings(place)
            self.refused(BadPlace, lambda: next(waiting), place)

    def test_many(self):
        # 473 standings of six names in four slots, if none is an again name.
        plain = Program(loop=[Use(name) for name in GIVEN], given=GIVEN)
        self.same(len(list(Task(plain, 4).standings(("loop", 0)))), 473)
        for again, slots in (
            ("ab", 1), ("abc", 1), ("abcdef", 1), ("abcdef", 2), ("abcde", 1), ("abcd", 2), ("abcde", 2), ("a", 4),
            ("ab", 3), ("abc", 3), ("ab", 4),
        ):
            program = Program(loop=[Use(name) for name in GIVEN], given=GIVEN, again={name: 1 for name in again})
            wanted = 0
            for held in subsets(GIVEN):
                if len(held) <= slots:
                    wanted += 2 ** len(held) * 2 ** len([name for name in again if name not in held])
            if wanted > 600:
                self.refused(TooMany, lambda: Task(program, slots), 600)
            else:
                self.same(len(list(Task(program, slots).standings(("loop", 0)))), wanted)

    def test_most(self):
        again = {name: 1 for name in GIVEN}
        uses = [Use(name) for name in GIVEN]
        self.same(Task(Program(loop=[], again=again), 4).slots, 4)
        for program in (
            Program(uses, again=again), Program(loop=uses, again=again), Program(loop=[], second=uses, again=again),
            Program(loop=[], behind=uses, again=again), Program(loop=[], between=uses, second=[], again=again),
            Program(again=again, results=GIVEN), Program(loop=uses, second=[], again=again),
        ):
            self.same(Task(program, 1).slots, 1)
            for slots in (2, 3, 4):
                self.refused(TooMany, lambda: Task(program, slots), 600)

    def test_each_combination_of_rounds(self):
        """With three slots 592 standings of a, b, c, d and x are sound, and too many if y is needed, too."""
        told = {"again": {name: 1 for name in "abcd"}, "given": ["x", "y"]}
        with_y, without_y = [Use("b", "c", "d"), Use("x"), Use("y")], [Use("b", "c", "d"), Use("x")]
        use, make, both = [Use("a")], [Make("y")], [Do("y", "a"), Use("y")]
        for parts in (
            ((use, make), with_y), (([], [Make("y"), Use("a")]), with_y), ((use, [], [], make), with_y),
            (([], use, [], make), with_y), (([], [], use, make), with_y),
            (([], [], [], [Make("y"), Use("a")]), with_y),
            ((use, [Use("y")]), without_y), ((use, [], [], [Use("y")]), without_y),
            (([], use, [], [Use("y")]), without_y), (([], [], use, [Use("y")]), without_y),
            (([], both), without_y), (([], [], [], both), without_y),
        ):
            parts, behind = parts
            self.refused(TooMany, lambda: Task(Program(*parts, behind=behind, **told), 3), 600)
            # Where no deed uses a, no place has so many.
            fine = [[deed for deed in part if deed.names != ("a",)] for part in parts]
            fine = [[Make("y") if str(deed) == "do y a" else deed for deed in part] for part in fine]
            self.same(Task(Program(*fine, behind=behind, **told), 3).slots, 3)
        least = Task(Program([Use("a"), *without_y], **told), 3)
        self.same(len(list(least.standings(("ahead", 0)))), 592)


class Done(Helping, unittest.TestCase):
    def test_moves_and_deeds_of_drawn_tasks(self):
        source = random.Random(22)
        for _ in range(60):
            task = drawn_task(source, names="abc")
            for slots in subsets(task.program.names):
                for stored in subsets(task.program.names):
                    if len(slots) <= task.slots:
                        self.check_all(task, Standing(slots, stored), frozenset(slots), frozenset(stored))

    def check_all(self, task, standing, held, kept):
        can = {(word, name): (price, *state) for word, name, price, state in moves_from(task, held, kept)}
        for kind in (Load, Again, Store, Forget):
            for name in (*task.program.names, "zz"):
                move = kind(name)
                found = can.get((move.word, name))
                if found is None:
                    self.refused(Barred, lambda: task.after(standing, move), self.word(task, held, kept, move), name)
                else:
                    self.assertEqual(task.after(standing, move), Standing(sorted(found[1]), sorted(found[2])))
                    self.same(task.price_of(move), found[0])
        for deed in task.program.ahead:
            state = behind_deed(task, deed, held, kept)
            if state is not None:
                self.assertEqual(task.after(standing, deed), Standing(sorted(state[0]), sorted(state[1])))
                continue
            for name in deed.uses:
                if name not in held:
                    word = "lacking" if name in kept or name in task.program.again else "lost"
                    break
            else:
                word, name = "full", deed.makes
            self.refused(Barred, lambda: task.after(standing, deed), word, name)

    def word(self, task, held, kept, move):
        """Why a move cannot be done, by the order of the document."""
        checks = {
            "load": [("held", move.name in held), ("unstored", move.name not in kept), ("full", True)],
            "again": [("fixed", move.name not in task.program.again), ("held", move.name in held), ("full", True)],
            "store": [("lacking", move.name not in held), ("kept", True)],
            "forget": [("lacking", True)],
        }
        return next(word for word, so in checks[move.word] if so)

    def test_order_of_words(self):
        task = Task(Program(given=["a", "b"], again={"c": 3}), 1)
        full = Standing(["a"], ["a"])
        for text, word in (
            ("load a", "held"), ("load b", "unstored"), ("load zz", "unstored"), ("again a", "fixed"),
            ("again zz", "fixed"), ("again c", "full"), ("store a", "kept"), ("store b", "lacking"),
            ("forget b", "lacking"), ("store zz", "lacking"), ("forget zz", "lacking"),
        ):
            self.refused(Barred, lambda: task.after(full, Move.read(text)), word, text.split()[1])
        self.refused(Barred, lambda: task.after(Standing(["c"], []), Again("c")), "held", "c")
        self.refused(Barred, lambda: task.after(Standing(["a"], ["b"]), Load("b")), "full", "b")

    def test_deeds(self):
        task = Task(Program(given=["a", "b", "d"], again={"c": 3}), 2)
        for standing, deed, word, name in (
            (Standing(["a"], ["b"]), Use("a", "b", "c"), "lacking", "b"),
            (Standing(["a"], []), Use("c", "b"), "lacking", "c"),
            (Standing(["a"], ["c"]), Use("b", "c"), "lost", "b"),
            (Standing(["a", "b"], []), Do("d", "c"), "lacking", "c"),
            (Standing(["a", "b"], ["d"]), Do("d", "a"), "full", "d"),
            (Standing(["a", "b"], ["d"]), Make("d"), "full", "d"),
        ):
            self.refused(Barred, lambda: task.after(standing, deed), word, name)
        for standing, deed, text in (
            (Standing(["a", "b"], ["a", "b"]), Do("a", "b"), "a b / b"),
            (Standing(["a", "b"], ["a", "b"]), Make("b"), "a b / a"),
            (Standing(["a"], ["d"]), Make("d"), "a d / -"),
            (Standing(["a"], ["d"]), Use("a"), "a / d"),
            (Standing(["a"], ["a"]), Do("a", "a"), "a / -"),
        ):
            self.same(str(task.after(standing, deed)), text)

    def test_prices(self):
        task = Task(Program(given=["a"], again={"c": 3, "d": 0}), 2, Prices(2, 5, {"b": 7, "c": 0}))
        for move, price in (
            (Load("a"), 2), (Load("b"), 7), (Load("c"), 0), (Load("zz"), 2), (Store("a"), 5), (Store("zz"), 5),
            (Forget("zz"), 0), (Again("c"), 3), (Again("d"), 0),
        ):
            self.same(task.price_of(move), price)
        for name in ("a", "zz"):
            self.refused(Barred, lambda: task.price_of(Again(name)), "fixed", name)


if __name__ == "__main__":
    unittest.main()
