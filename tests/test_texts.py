"""The texts of programs and plans, and reading a program."""

import random
import unittest

from helping import Helping, strange_values
from loopstow.deeds import Do, Make, Use
from loopstow.errors import BadText, MadeAgain, StowError, TooMany, Unmade
from loopstow.moves import Again, Forget, Load, Store
from loopstow.programs import Program
from loopstow.texts import show_plan, show_program


class Shown(Helping, unittest.TestCase):
    def test_document(self):
        fall = Program([Make("x"), Use("a")], [Make("x")], behind=[Use("x")], given=["a"])
        self.same(show_program(fall), "given a\nmake x\nuse a\nloop\nmake x\nend\nuse x")

    def test_programs(self):
        for program, text in (
            (Program(), ""),
            (Program(loop=[]), "loop\nend"),
            (Program(loop=[], second=[]), "loop\nend\nsecond\nend"),
            (Program([Make("loop"), Do("end", "loop")]), "make loop\ndo end loop"),
            (Program(given=["b", "a"], again={"d": 9, "c": 0}, results=["b", "a"]),
             "given a b\nagain c 0\nagain d 9\nresults a b"),
            (Program(again={"given": 1, "again": 2}, results=["given"]), "again again 2\nagain given 1\nresults given"),
            (Program([Make("x")], [Use("x")], [Make("y")], [Use("y")], [Use("x", "y")]),
             "make x\nloop\nuse x\nend\nmake y\nsecond\nuse y\nend\nuse x y"),
            (Program(loop=[Make("x")], behind=[Make("use"), Use("use")]), "loop\nmake x\nend\nmake use\nuse use"),
        ):
            self.same(show_program(program), text)
            self.same(str(program), text)
            self.assertEqual(Program.read(text), program)

    def test_plans(self):
        plan = [[Load("a"), Store("b")], [], ["forget a", Again("c")], (Forget("b"),)]
        self.same(show_plan(plan), "load a, store b\n-\nforget a, again c\nforget b")
        self.same([show_plan([[]]), show_plan(((), ()))], ["-", "-\n-"])

    def test_random_programs_come_back(self):
        source = random.Random(7)
        names = ["a", "b", "x", "y"]
        found = 0
        while found < 300:
            deeds = [
                source.choice([Use(source.choice(names)), Make(source.choice(names)), Do("y", *source.sample(names, 2))])
                for _ in range(8)
            ]
            loop, second = source.choice([None, deeds[2:4]]), source.choice([None, deeds[4:6]])
            try:
                program = Program(
                    deeds[:2], loop, deeds[6:7] if second else (), second, deeds[7:] if loop else (),
                    given=["a", "b"], again={"x": 4} if source.random() < 0.5 else None,
                    results=source.sample(names, source.randrange(3)),
                )
            except StowError:
                continue
            found += 1
            self.assertEqual(Program.read(str(program)), program)
            self.same(str(Program.read(str(program))), str(program))


class Refused(Helping, unittest.TestCase):
    def wrong(self, text, line, word):
        self.refused(BadText, lambda: Program.read(text), line, word)

    def test_no_text(self):
        for value in strange_values():
            if value not in ("", "use  a"):
                self.wrong(value, 0, 0)
        self.wrong("use  a", 0, 1)

    def test_first_words(self):
        for text, line in (
            ("\n", 0), ("given a\n", 1), (" ", 0), ("given a\ngiven b", 1), ("Use a", 0),
            ("again c 1\ngiven a", 1), ("results a\nagain c 1", 1), ("results a\nresults b", 1), ("end", 0),
            ("results a\ngiven a", 1), ("make x\ngiven a", 1), ("make x\nresults x", 1), ("second\nend", 0),
            ("loop\nend\nloop\nend", 2), ("loop\nloop\nend\nend", 1), ("loop\nend\nend", 2), ("loop\nsecond", 1),
            ("loop\nend\nsecond\nend\nsecond\nend", 4), ("loop\nend\nsecond\nend\nloop\nend", 4), ("a", 0),
            ("make x\n\nuse x", 1), ("loop\ngiven a\nend", 1), ("loop\nend\ngiven a", 2), ("between", 0),
            ("ahead\nmake x", 0), ("loop\nend\n", 2), ("load a", 0),
        ):
            self.wrong(text, line, 0)

    def test_names(self):
        for text, line, word in (
            ("given A", 0, 1), ("given a B", 0, 2), ("given b a", 0, 2), ("given a a", 0, 2), ("given a c b", 0, 3),
            ("given a  b", 0, 2), ("given a ", 0, 2), ("given ", 0, 1), ("results b a", 0, 2), ("results a a", 0, 2),
            ("again C 1", 0, 1), ("again b 1\nagain a 1", 1, 1), ("again b 1\nagain b 2", 1, 1),
            ("again b 1\nagain a x y", 1, 1), ("given a b,", 0, 2), ("use abcdefg", 0, 1), ("do x Y", 0, 2),
            ("do X Y", 0, 1), ("make x\r", 0, 1), ("use a\tb", 0, 1), ("loop\nuse a b C\nend", 1, 3),
        ):
            self.wrong(text, line, word)

    def test_prices(self):
        for price in ("10", "", "x", "-1", "01", "+1", "\u0663", "1.0", "12"):
            self.wrong(f"given a\nagain c {price}", 1, 2)
            self.wrong(f"given a\nagain c {price} q", 1, 2)

    def test_used_names(self):
        for text, word in (
            ("use a a", 2), ("use a b a", 3), ("use a b c d", 4), ("use a b c a", 4), ("use a b c D e", 4),
            ("do x a a", 3), ("do x a b c d", 5), ("do x x x", 3), ("do x a b c x", 5), ("use a a b c d", 2),
        ):
            self.wrong(text, 0, word)
        given = "given a b c\n"
        self.same(str(Program.read(given + "use c a b\ndo a a b c")), given + "use c a b\ndo a a b c")

    def test_too_many_words(self):
        for text, line, word in (
            ("make x y", 0, 2), ("make x ", 0, 2), ("again c 1 2", 0, 3), ("again c 1 ", 0, 3), ("loop x\nend", 0, 1),
            ("loop \nend", 0, 1), ("loop\nend x", 1, 1), ("loop\nend\nsecond x\nend", 2, 1),
            ("loop\nend\nsecond\nend ", 3, 1),
        ):
            self.wrong(text, line, word)

    def test_missing_words(self):
        for text, line, word in (
            ("given", 0, 1), ("results", 0, 1), ("again", 0, 1), ("again c", 0, 2), ("use", 0, 1), ("make", 0, 1),
            ("do", 0, 1), ("do x", 0, 2), ("again b 1\nagain c", 1, 2), ("loop\ndo x\nbad", 1, 2),
        ):
            self.wrong(text, line, word)

    def test_missing_lines(self):
        for text, line in (
            ("loop", 1), ("loop\nmake x", 2), ("loop\nend\nsecond", 3), ("loop\nend\nmake x\nsecond\nmake x", 5),
        ):
            self.wrong(text, line, 0)

    def test_the_first_fault_counts(self):
        self.wrong("given b a\nagain\nuse", 0, 2)
        self.wrong("given a\nloop x\nuse a a", 1, 1)
        self.wrong("use q\nmake x\nuse x x", 2, 2)

    def test_then_as_program(self):
        self.refused(Unmade, lambda: Program.read("loop\nmake x\nend\nuse x"), ("behind", 0), "x")
        self.refused(MadeAgain, lambda: Program.read("again x 1\nmake x"), ("ahead", 0), "x")
        self.refused(TooMany, lambda: Program.read("given a b c d e f g"), 6)
        self.refused(TooMany, lambda: Program.read("\n".join(["loop"] + ["make x"] * 25 + ["end"])), 24)
        self.refused(TooMany, lambda: Program.read("\n".join(["make x"] * 201)), 200)
        self.refused(
            TooMany, lambda: Program.read("\n".join(["loop", "end"] + ["make x"] * 25 + ["second", "end"])), 24)
        Program.read("\n".join(["loop"] + ["make x"] * 24 + ["end"]))


if __name__ == "__main__":
    unittest.main()
