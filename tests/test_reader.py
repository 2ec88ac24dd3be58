"""Reading the texts of programs and plans."""

import random
import unittest

from helping import Helping, strange_values
from loopstow.bench import play
from loopstow.errors import BadText, MadeAgain, StowError, TooMany, Unmade
from loopstow.moves import Again, Forget, Load, Move, Store
from loopstow.programs import Program
from loopstow.reader import read_plan, read_program
from loopstow.straight import least_plan
from loopstow.texts import show_plan, show_program
from plainly import drawn_program, drawn_task
from plainread import plan_fault, program_fault, spoiled_text

WORDS = ("load", "again", "store", "forget")


class Programs(Helping, unittest.TestCase):
    def test_document(self):
        text = "given a\nmake x\nuse a\nloop\nmake x\nend\nuse x"
        self.same([show_program(read_program(text)), str(read_program(text=text))], [text, text])

    def test_the_same_as_read(self):
        source = random.Random(601)
        for index in range(120):
            program = drawn_program(source, loops=index % 3)
            text = show_program(program)
            self.same(program_fault(text), None)
            self.assertEqual(read_program(text), program)
            self.assertEqual(Program.read(text), program)
            self.same([str(program), show_program(read_program(text))], [text, text])

    def test_forms(self):
        for text in (
            "", "loop\nend", "loop\nend\nsecond\nend", "given a", "again a 0", "results a\nmake a",
            "given again loop\nagain given 3\nagain make 9\nresults again loop\ndo end loop\nuse end",
            "make use\nloop\nuse use\nend\nuse use\nsecond\nmake make\nend\nuse use",
            "given do end given loop make use\nloop\nuse do end given\ndo make loop use\nend",
        ):
            self.same([program_fault(text), show_program(read_program(text))], [None, text])

    def test_spoiled(self):
        source = random.Random(602)
        wrong, right = 0, 0
        for index in range(700):
            text = show_program(drawn_program(source, loops=index % 3, names=["a", "b", "use", "end"]))
            for _ in range(source.choice((1, 1, 2))):
                text = spoiled_text(source, text)
            fault = program_fault(text)
            if fault is not None:
                wrong += 1
                self.refused(BadText, lambda: read_program(text), *fault)
                self.refused(BadText, lambda: Program.read(text), *fault)
                continue
            right += 1
            try:
                self.same(show_program(read_program(text)), text)
            except StowError as why:
                self.assertIn(why.__class__, (Unmade, MadeAgain, TooMany))
                self.refused(why.__class__, lambda: Program.read(text), *vars(why).values())
        self.assertGreater(min(wrong, right), 50)

    def test_any_values(self):
        for value in strange_values():
            fault = program_fault(value)
            if fault is None:
                self.same(value, "")
            else:
                self.refused(BadText, lambda: read_program(value), *fault)
        self.refused(Unmade, lambda: read_program("use a"), ("ahead", 0), "a")
        self.refused(Unmade, lambda: read_program("results a"), ("behind", 0), "a")
        self.refused(TooMany, lambda: read_program("\n".join(["loop", *["make a"] * 25, "end"])), 24)


class Plans(Helping, unittest.TestCase):
    def plans_are_equal(self, one, other):
        self.same([row.__class__ for row in one], [list] * len(other))
        self.assertEqual([list(row) for row in one], [list(row) for row in other])

    def test_plans(self):
        for text, plan in (
            ("-", [[]]), ("-\n-", [[], []]), ("load a", [[Load("a")]]),
            ("load a, store a\n-\nforget abcdef, again b, load c", [
                [Load("a"), Store("a")], [], [Forget("abcdef"), Again("b"), Load("c")],
            ]),
            ("load load, store store\nagain again\nforget forget", [
                [Load("load"), Store("store")], [Again("again")], [Forget("forget")],
            ]),
        ):
            self.plans_are_equal(read_plan(text), plan)
            self.same([show_plan(read_plan(text=text)), show_plan(plan), plan_fault(text)], [text, text, None])

    def test_least_plans_come_back(self):
        source = random.Random(603)
        for _ in range(80):
            task = drawn_task(source, loops=1)
            plan = least_plan(task, 2)
            text = show_plan(plan)
            self.plans_are_equal(read_plan(text), plan)
            self.same([show_plan(read_plan(text)), play(task, read_plan(text), 2)], [text, play(task, plan, 2)])

    def test_document(self):
        for text, word in (("load a store b", 2), ("load a,", 2), ("load a,,", 1), ("", 0), ("- -", 1), ("- load a", 1)):
            self.refused(BadText, lambda: read_plan(text), 0, word)
            self.refused(BadText, lambda: read_plan("-\nload a\n" + text), 2, word)

    def test_wrong_words(self):
        for text, word in (
            (" ", 0), ("-\n", None), ("load", 1), ("load ", 1), ("load a ", 2), (" load a", 0), ("load  a", 1), ("a", 0),
            ("load A", 1), ("load abcdefg", 1), ("load abcdefg,", 1), ("use a", 0), ("load a, ", 2), ("load a, -", 2),
            ("load a,store b", 1), ("load a , store b", 2), ("load a, store", 3), ("load a, store b,", 4), ("load ,", 1),
            ("load a, store b c", 4), ("Load a", 0), ("load a1", 1), ("--", 0), ("-,", 0), ("-, load a", 0), ("load -", 1),
            ("load a; store b", 1), ("load a\t", 1), ("bring a", 0), ("load \u00e9", 1), ("load a,  store b", 2),
        ):
            line, word = (1, 0) if word is None else (0, word)
            self.same(plan_fault(text), (line, word))
            self.refused(BadText, lambda: read_plan(text), line, word)

    def test_spoiled(self):
        source = random.Random(604)
        wrong, right = 0, 0
        for _ in range(900):
            plan = [
                [f"{source.choice(WORDS)} {source.choice(['a', 'b', 'load', 'abcdef'])}" for _ in range(source.randrange(4))]
                for _ in range(source.randrange(1, 5))
            ]
            text = show_plan(plan)
            self.same([plan_fault(text), show_plan(read_plan(text))], [None, text])
            for _ in range(source.choice((1, 1, 2))):
                text = spoiled_text(source, text)
            fault = plan_fault(text)
            if fault is None:
                right += 1
                self.same(show_plan(read_plan(text)), text)
            else:
                wrong += 1
                self.refused(BadText, lambda: read_plan(text), *fault)
        self.assertGreater(min(wrong, right), 50)

    def test_any_values(self):
        for value in strange_values():
            self.refused(BadText, lambda: read_plan(value), *(plan_fault(value) or "none"))
        self.assertTrue(all(isinstance(move, Move) for row in read_plan("load a, forget a\n-") for move in row))
        one = read_plan("load a")
        one[0].clear()
        self.same(len(read_plan("load a")[0]), 1)


if __name__ == "__main__":
    unittest.main()
