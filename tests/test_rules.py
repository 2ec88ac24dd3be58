"""Rules of thumb [11]."""

import inspect
import random
import unittest

from helping import Helping, strange_values
from loopstow.bench import play
from loopstow.deeds import Do, Make, Use
from loopstow.errors import BadName, BadNumber, BadRule, Crowded, NoLoop, TooMany, Twice, TwoLoops
from loopstow.loops import row
from loopstow.moves import Move
from loopstow.prices import Prices
from loopstow.programs import Program
from loopstow.rows import Row
from loopstow.rules import Rule, beaten, rule_plan, rule_price, rule_row
from loopstow.straight import least_price
from loopstow.tables import turn
from loopstow.tasks import Task
from plainly import drawn_task, late_tasks, turning_task
from plainrules import head_states, plain_rule

WORDS = ("dead", "far", "old", "clean", "cheap")


def turns():
    return Task(Program(loop=[Use("a"), Use("b"), Use("c")], given=["a", "b", "c"]), 2)


def busy():
    return Task(Program([Make("x"), Use("y"), Use("z"), Use("y"), Use("x")], given=["y", "z"]), 2, Prices(1, 5))


def texts(plan):
    return [[str(move) for move in row] for row in plan]


def drawn_rule(source, names="abc"):
    words = source.sample(WORDS, source.choice((1, 1, 2, 3, 4, 5)))
    return words, source.sample([*names, "z"], source.choice((0, 0, 0, 1, 1, 2, 3)))


class Rules(Helping, unittest.TestCase):
    def test_document(self):
        self.same([rule_price(busy(), Rule("far")), rule_price(busy(), Rule("clean", "far"))], [8, 3])
        told = [str(rule_row(turns(), Rule("far"))), str(rule_row(turns(), Rule("old")))]
        self.same(told, ["0 | 3 4 + 3", "| 0 + 3"])
        self.same([beaten(turns(), Rule("old")), beaten(turns(), Rule("far"))], [2, None])

    def test_rule(self):
        rule = Rule("old", "dead", pins=["b", "a"])
        self.same([rule.words, rule.pins, Rule.WORDS, rule.WORDS], [("old", "dead"), ("b", "a"), WORDS, WORDS])
        self.same([Rule("far").pins, Rule(*WORDS).words, Rule("far", pins=("zz",)).pins], [(), WORDS, ("zz",)])
        for name in ("words", "pins"):
            self.assertIsInstance(vars(Rule)[name], property)
            with self.assertRaises(AttributeError):
                setattr(rule, name, ())
        self.assertIn("__eq__", vars(Rule))
        pins = ["a"]
        kept = Rule("far", pins=pins)
        pins.append("b")
        self.same(kept.pins, ("a",))

    def test_equal(self):
        self.assertTrue(Rule("far") == Rule("far", pins=[]))
        self.assertTrue(Rule("far", "old", pins=["a"]) == Rule("far", "old", pins=("a",)))
        for other in (Rule("old"), Rule("old", "far"), Rule("far", "old", pins=["a"]), "far", ("far",), None):
            self.assertFalse(Rule("far", "old") == other)
        self.assertFalse(Rule("far", pins=["a", "b"]) == Rule("far", pins=["b", "a"]))

    def test_wrong_rules(self):
        self.refused(BadRule, lambda: Rule(), None)
        self.refused(BadRule, lambda: Rule(pins=["A"]), None)
        for value in [*strange_values(), "Far", "far ", "far old", "deadfar", b"far", ("far",)]:
            self.refused(BadRule, lambda: Rule(value), value)
            self.refused(BadRule, lambda: Rule("old", value, "far", "no"), value)
            self.refused(BadRule, lambda: Rule(value, pins=[1]), value)
            if value != "a":
                self.refused(BadName, lambda: Rule("far", pins=["a", "a", value, 0]), value)
                self.refused(BadName, lambda: Rule("far", pins=(value,)), value)
        self.refused(BadRule, lambda: Rule("far", "old", "far"), "far")
        self.refused(BadRule, lambda: Rule("old", "far", "far", "no", pins=[1]), "far")
        self.refused(Twice, lambda: Rule("far", pins=["b", "a", "a", "b"]), "a")
        self.refused(Twice, lambda: Rule("far", pins=("b", "a", "b")), "b")

    def test_against_a_plain_play(self):
        source = random.Random(401)
        crowded = 0
        for index in range(400):
            loops = index % 3
            task = drawn_task(source, loops=loops, names="abcd" if index % 2 else "abc", most=4)
            words, pins = drawn_rule(source)
            rule = Rule(*words, pins=pins)
            n, m = source.randrange(4) if loops else 0, source.randrange(4) if loops == 2 else 0
            try:
                wanted = plain_rule(task, words, pins, n, m)
            except Crowded as why:
                crowded += 1
                self.refused(Crowded, lambda: rule_plan(task, rule, n, m), why.place)
                self.refused(Crowded, lambda: rule_price(task, rule, n, m), why.place)
                continue
            plan = rule_plan(task, rule, n, m)
            self.same(texts(plan), wanted)
            self.assertTrue(all(isinstance(move, Move) for moves in plan for move in moves))
            self.same([plan.__class__, [moves.__class__ for moves in plan]], [list, [list] * len(plan)])
            self.same(rule_price(task, rule, n, m), play(task, plan, n, m))
            self.assertGreaterEqual(rule_price(task, rule, n, m), least_price(task, n, m))
        self.assertGreater(crowded, 20)

    def test_against_a_plain_play_of_many_uses(self):
        """Few slots and many names, so that there is a choice at most deeds."""
        source = random.Random(403)
        for index in range(400):
            loops = index % 3
            task = turning_task(source, loops, "abcdef")
            words = source.sample(WORDS, source.choice((1, 1, 2, 3)))
            if index % 4 == 0:
                words = ["far"]
            pins = source.sample("abcdef", source.choice((0, 0, 0, 1)))
            n, m = source.randrange(4) if loops else 0, source.randrange(4) if loops == 2 else 0
            try:
                wanted = plain_rule(task, words, pins, n, m)
            except Crowded as why:
                self.refused(Crowded, lambda: rule_plan(task, Rule(*words, pins=pins), n, m), why.place)
                continue
            self.same(texts(rule_plan(task, Rule(*words, pins=pins), n, m)), wanted)

    def test_rows(self):
        source = random.Random(402)
        for index in range(200):
            task = drawn_task(source, loops=1, names="abcd" if index % 2 else "abc", most=4)
            if index % 4 == 0:
                task = turning_task(source, 1)
            words, pins = drawn_rule(source)
            rule = Rule(*words, pins=pins)
            try:
                plain_rule(task, words, pins, 0)
                states = head_states(task, words, pins, 40)
                again = next(r for r in range(41) if states[r] in states[:r])
                wanted = [play(task, plain_rule(task, words, pins, n), n) for n in range(again)]
            except Crowded as why:
                self.refused(Crowded, lambda: rule_row(task, rule), why.place)
                self.refused(Crowded, lambda: beaten(task, rule), why.place)
                continue
            found = rule_row(task, rule)
            self.assertIsInstance(found, Row)
            self.same(list(found.numbers(again)), wanted)
            for n in (again, again + 1, again + 5):
                self.same(found[n], rule_price(task, rule, n))
            self.assertEqual(rule_row(task, rule, again), found)
            if again > 1:
                self.refused(TooMany, lambda: rule_row(task, rule, again - 1), again - 1)
            self.same(beaten(task, rule), found.above(row(task)))

    def test_each_word(self):
        """One rule for each word, at a deed where it tells."""
        loop = [Use("b"), Use("c"), Use("a")]
        task = Task(Program(loop=loop, behind=[Use("b")], given=["a", "b", "c"]), 2, Prices(2, 1, {"b": 3}))
        for word, moves in (
            ("dead", ["forget b", "load a"]), ("far", ["forget c", "load a"]), ("old", ["forget b", "load a"]),
            ("clean", ["forget b", "load a"]), ("cheap", ["forget c", "load a"]),
        ):
            self.same(texts(rule_plan(task, Rule(word), 1))[2], moves)
        made = Task(Program([Make("x"), Use("y"), Use("z")], given=["y", "z"], results=["x"]), 2)
        self.same(texts(rule_plan(made, Rule("old"))), [[], ["load y"], ["store x", "forget x", "load z"], []])
        self.same(texts(rule_plan(made, Rule("clean"))), [[], ["load y"], ["forget y", "load z"], ["store x"]])
        self.same(texts(rule_plan(made, Rule("dead"))), [[], ["load y"], ["forget y", "load z"], ["store x"]])
        self.same(texts(rule_plan(made, Rule("old", pins=["x"]))), [[], ["load y"], ["forget y", "load z"], ["store x"]])

    def test_ties(self):
        """Of several names with the greatest key the least one goes."""
        task = Task(Program([Use("c", "b"), Use("a")], given=["a", "b", "c"]), 2)
        for word, gone in (("dead", "b"), ("far", "b"), ("old", "c"), ("clean", "b"), ("cheap", "b")):
            self.same(texts(rule_plan(task, Rule(word)))[1], [f"forget {gone}", "load a"])

    def test_far_sees_the_loop(self):
        """Ahead of a loop and in it the loop goes on for ever, whatever the number of rounds; a value made anew is far."""
        program = Program([Use("a", "b"), Use("c")], [Use("b"), Do("a", "b")], behind=[Use("a")], given=["a", "b", "c"])
        for n in (0, 1, 3):
            self.same(texts(rule_plan(Task(program, 2), Rule("far"), n))[1], ["forget a", "load c"])
        later = Program([Use("a", "b"), Use("c")], [Use("a"), Use("b")], given=["a", "b", "c"])
        between = Program(loop=[Use("a", "b")], between=[Use("c")], second=[Use("a"), Use("b")], given=["a", "b", "c"])
        self.same(texts(rule_plan(Task(later, 2), Rule("far")))[1], ["forget b", "load c"])
        self.same(texts(rule_plan(Task(between, 2), Rule("far"), 1))[1], ["forget b", "load c"])
        last = Program([Use("a", "b"), Use("c")], [Use("b")], behind=[Use("a")], given=["a", "b", "c"])
        self.same(texts(rule_plan(Task(last, 2), Rule("far")))[1:], [["forget a", "load c"], ["forget b", "load a"], []])
        two = Program(loop=[Use("a")], between=[Use("b"), Use("c")], second=[Use("b")], behind=[Use("a")], given="abc")
        self.same(texts(rule_plan(Task(two, 2), Rule("far"), 1, 0))[2], ["forget a", "load c"])
        # Behind the loops nothing is seen but the deeds behind.
        self.same(texts(rule_plan(Task(two, 2), Rule("far"), 1, 0))[3], ["forget b", "load a"])

    def test_agains(self):
        """An again name is made again if that is cheaper or it is not stored, and never stored to be forgotten."""
        program = Program([Use("a"), Use("b"), Use("a")], given=["a", "b"], again={"a": 2, "b": 1}, results=["a"])
        for load, first, second in ((1, "load a", "load b"), (2, "load a", "again b"), (3, "again a", "again b")):
            plan = rule_plan(Task(program, 1, Prices(load, 5)), Rule("old"))
            self.same(texts(plan), [[first], ["forget a", second], ["forget b", first], []])
        bare = Program([Use("a"), Use("b")], given=["b"], again={"a": 9}, results=["a"])
        plan = rule_plan(Task(bare, 1, Prices(0, 0)), Rule("far"))
        self.same(texts(plan), [["again a"], ["forget a", "load b"], ["forget b", "again a", "store a"]])

    def test_end(self):
        """Results that are not stored, ascending; a result that is forgotten for one ahead of it is stored then."""
        program = Program([Make("c"), Do("b", "c")], given=["d"], again={"a": 1}, results=["a", "b", "c", "d"])
        self.same(texts(rule_plan(Task(program, 2), Rule("old"))), [
            [], [], ["store c", "forget c", "again a", "store a", "store b"],
        ])
        self.same(texts(rule_plan(Task(program, 3), Rule("old")))[-1], ["again a", "store a", "store b", "store c"])
        self.refused(Crowded, lambda: rule_plan(Task(program, 2), Rule("old", pins=["b", "c"])), ("behind", 0))
        self.same(texts(rule_plan(Task(program, 3), Rule("old", pins=["b", "c"])))[-1][0], "again a")

    def test_crowded_at_a_deed(self):
        program = Program(
            [Use("a")], [Use("a", "b")], between=[Make("c")], second=[Do("d", "a")], behind=[Use("a", "b", "e")],
            given=["a", "b", "e"],
        )
        task = Task(program, 3)
        for pins, place in (
            (["a", "b", "e"], ("between", 0)), (["c", "d"], ("loop", 0)), (["x", "y", "z"], ("ahead", 0)),
            (["x"], ("behind", 0)), (["a", "x"], ("behind", 0)), (["x", "y"], ("loop", 0)), (["b", "e"], ("second", 0)),
        ):
            for n, m in ((0, 0), (1, 0), (2, 3), (-1, 0), (0, "no")):
                self.refused(Crowded, lambda: rule_plan(task, Rule("old", pins=pins), n, m), place)
                self.refused(Crowded, lambda: rule_price(task, Rule("old", pins=pins), n, m), place)
        self.same(rule_price(task, Rule("old", pins=["a", "b"]), 1, 1), 3)

    def test_pins_that_fill_the_slots(self):
        task = Task(Program([Use("a"), Use("b"), Use("a")], given=["a", "b"]), 2)
        self.same(texts(rule_plan(task, Rule("far", pins=["b", "a"]))), [["load a"], ["load b"], [], []])
        self.same(rule_price(task, Rule("far", pins=["a"])), 2)
        # A pin that the program lacks takes a slot that deeds may not fill, but no slot in which a name lies.
        self.refused(Crowded, lambda: rule_plan(task, Rule("far", pins=["a", "c"])), ("ahead", 1))
        self.same(texts(rule_plan(task, Rule("far", pins=["c"]))), [["load a"], ["load b"], [], []])

    def test_crowded_at_the_end(self):
        """Only if a round is done the pin fills the slot."""
        program = Program(loop=[Use("a")], given=["a"], again={"b": 1}, results=["b"])
        task, rule = Task(program, 1), Rule("old", pins=["a"])
        self.same(texts(rule_plan(task, rule)), [["again b", "store b"]])
        self.same(rule_price(task, rule, 0), 2)
        for n in (1, 2, 3):
            self.refused(Crowded, lambda: rule_plan(task, rule, n), ("behind", 0))
        for most in (1, 2, 120):
            self.refused(Crowded, lambda: rule_row(task, rule, most), ("behind", 0))
            self.refused(Crowded, lambda: beaten(task, rule, most), ("behind", 0))
        behind = Program(loop=[Use("a")], behind=[Use("a"), Use("a")], given=["a"], again={"b": 1}, results=["b"])
        self.refused(Crowded, lambda: rule_plan(Task(behind, 1), rule), ("behind", 2))
        self.refused(BadNumber, lambda: rule_plan(Task(behind, 1), rule, -1), -1)
        self.refused(TooMany, lambda: rule_plan(Task(behind, 1), rule, 199), 200)
        self.refused(NoLoop, lambda: rule_plan(Task(behind, 1), rule, 0, 1))

    def test_bounds(self):
        for rule, least in ((Rule("old"), 3), (Rule("far"), 3), (Rule("cheap"), 2)):
            states = head_states(turns(), rule.words, (), 6)
            again = next(r for r in range(7) if states[r] in states[:r])
            self.same(rule_row(turns(), rule, again), rule_row(turns(), rule))
            self.refused(TooMany, lambda: rule_row(turns(), rule, again - 1), again - 1)
            self.refused(TooMany, lambda: beaten(turns(), rule, again - 1), again - 1)
            self.assertLessEqual(again, least)
        for call in (rule_row, beaten):
            self.same(inspect.signature(call).parameters["most"].default, 120)

    def test_beaten_needs_the_row_too(self):
        for task, (s, p, _) in late_tasks():
            rule = Rule("old")
            found = rule_row(task, rule)
            self.same(turn(task, 400)[:2], (s, p))
            self.refused(TooMany, lambda: beaten(task, rule, s + p - 1), s + p - 1)
            self.same(beaten(task, rule, s + p), found.above(row(task, s + p)))

    def test_refused_in_order(self):
        crowded = Rule("far", pins=["a", "b", "c", "d", "e"])
        for call in (rule_row, beaten):
            self.refused(NoLoop, lambda: call(busy(), crowded))
            self.refused(TwoLoops, lambda: call(Task(Program(loop=[Use("a")], second=[], given=["a"]), 1), crowded))
            self.refused(Crowded, lambda: call(turns(), crowded, 1), ("loop", 0))
        for call in (rule_plan, rule_price):
            self.refused(Crowded, lambda: call(turns(), crowded, "x"), ("loop", 0))
            for value in strange_values():
                if value.__class__ is not int or value < 0:
                    self.refused(BadNumber, lambda: call(turns(), Rule("far"), value), value)
                    self.refused(BadNumber, lambda: call(turns(), Rule("far"), 2, value), value)
            self.refused(NoLoop, lambda: call(turns(), Rule("far"), 2, 1))
            self.refused(NoLoop, lambda: call(busy(), Rule("far"), 1))
            self.refused(TooMany, lambda: call(turns(), Rule("far"), 67), 200)
        self.same(rule_price(task=turns(), rule=Rule("far"), n=66, m=0), row(turns())[66])

    def test_empty_loop(self):
        program = Program([Use("a")], [], behind=[Use("b")], given=["a", "b"], results=["a"])
        task = Task(program, 1)
        self.same([rule_price(task, Rule("old"), 10 ** 59), str(rule_row(task, Rule("old"), 1))], [2, "| 2 + 0"])
        self.same(texts(rule_plan(task, Rule("old"), 10 ** 59)), [["load a"], ["forget a", "load b"], []])
        self.same(beaten(task, Rule("old"), 1), None)
        both = Program(loop=[], second=[], given=["a"])
        self.same(texts(rule_plan(Task(both, 1), Rule("old"), 10 ** 30, 10 ** 40)), [[]])

    def test_answers_belong_to_the_caller(self):
        task, rule = turns(), Rule("far")
        plan = rule_plan(task, rule, 2)
        before = texts(plan)
        for moves in plan:
            moves.clear()
        self.same(texts(rule_plan(task, rule, 2)), before)
        task.slots = 3
        self.same(rule_price(task, rule, 5), 3)


if __name__ == "__main__":
    unittest.main()
