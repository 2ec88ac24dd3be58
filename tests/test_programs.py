"""Programs [4], and what [10] says of a body written several times, a round put ahead, a loop begun elsewhere."""

import unittest

from helping import Helping, strange_values
from loopstow.deeds import Do, Make, Use
from loopstow.errors import (
    BadName, BadNumber, BadPart, BadPlace, BadPrice, MadeAgain, NoLoop, TooMany, Twice, TwoLoops, Unmade,
)
from loopstow.programs import Program

FAR = 10 ** 50


def turns():
    return Program(loop=[Use("a"), Use("b"), Use("c")], given=["a", "b", "c"])


def double():
    return Program(
        [Make("x")], [Use("a"), Do("y", "x")], [Make("z")], [Use("z")], [Use("x", "z")],
        given=["b", "a"], again={"c": 3, "b": 0}, results=("z", "x"),
    )


def texts(deeds):
    return [str(deed) for deed in deeds]


class Made(Helping, unittest.TestCase):
    def test_document(self):
        self.same(
            [turns().loops, turns().room, turns().names, [place for place in turns().places()][:3],
             len((turns() ** 2).loop)],
            [1, 1, ("a", "b", "c"), [("ahead", 0), ("loop", 0), ("loop", 1)], 6],
        )
        turned = turns().turned(1)
        self.same(
            [texts(turned.ahead), texts(turned.loop), len(turns().straight(4).ahead)],
            [["use a"], ["use b", "use c", "use a"], 12],
        )
        self.refused(Unmade, lambda: Program(loop=[Make("x")], behind=[Use("x")]), ("behind", 0), "x")

    def test_properties(self):
        program = double()
        self.same(
            [texts(program.ahead), texts(program.loop), texts(program.between), texts(program.second),
             texts(program.behind)],
            [["make x"], ["use a", "do y x"], ["make z"], ["use z"], ["use x z"]],
        )
        for part in ("ahead", "loop", "between", "second", "behind"):
            self.assertIsInstance(getattr(program, part), tuple)
            self.assertIsInstance(vars(Program)[part], property)
        self.assertIsInstance(vars(Program)["names"], property)
        with self.assertRaises(AttributeError):
            program.names = ("a",)
        self.same(
            [program.given, program.results, program.names, program.again, program.loops, program.room],
            [("a", "b"), ("x", "z"), ("a", "b", "c", "x", "y", "z"), {"b": 0, "c": 3}, 2, 2],
        )
        empty = Program()
        self.same(
            [empty.ahead, empty.loop, empty.between, empty.second, empty.behind, empty.given, empty.results,
             empty.names, empty.again, empty.loops, empty.room],
            [(), None, (), None, (), (), (), (), {}, 0, 1],
        )
        self.same([Program(loop=[]).loop, Program(loop=[]).loops, Program(loop=[], second=()).loops], [(), 1, 2])
        self.same(Program([Make("x")], [Do("y", "x", "a", "b")], given=["a", "b"]).room, 4)
        self.same(Program(loop=[], second=[Use("a", "b", "c")], given=["a", "b", "c"]).room, 3)

    def test_arguments_and_answers_stay_apart(self):
        deeds, given, again, results = [Use("a")], ["a"], {"c": 1}, ["a"]
        program = Program(deeds, deeds, given=given, again=again, results=results)
        before = Program([Use("a")], [Use("a")], given=["a"], again={"c": 1}, results=["a"])
        for rows in (deeds, given, results):
            rows.clear()
        again["c"] = 5
        program.again["d"] = 1
        program.again.clear()
        self.assertEqual(program, before)
        self.same(program.again, {"c": 1})

    def test_equal(self):
        self.same(double() == double(), True)
        self.same(Program(given=["b", "a"]) == Program(given=("a", "b")), True)
        unlike = [
            Program(), Program(loop=[]), Program(loop=[], second=[]), Program(given=["a"]), Program(again={"a": 1}),
            Program(again={"a": 2}), Program(given=["a"], results=["a"]), Program([Use("a")], given=["a"]),
            Program(loop=[Use("a")], given=["a"]), Program(loop=[], behind=[Use("a")], given=["a"]),
        ]
        for index, one in enumerate(unlike):
            for other_index, other in enumerate(unlike):
                self.same(one == other, index == other_index)
            self.same(one == str(one), False)
            self.same(one == None, False)  # noqa: E711

    def test_deed_at(self):
        program = double()
        self.assertEqual(program.deed_at(("loop", 1)), Do("y", "x"))
        self.assertEqual(program.deed_at(("behind", 0)), Use("x", "z"))
        for place in [
            *strange_values(), ("loop", 2), ("loop", -1), ("loop", True), ("loop", "0"), ["loop", 0], ("Loop", 0),
            ("behind", 1), ("loop", FAR), (0, "loop"), ([], 0), ("loop", None), "loop", ("loop", 0, 0),
        ]:
            self.refused(BadPlace, lambda: program.deed_at(place), place)
        self.refused(BadPlace, lambda: Program().deed_at(("loop", 0)), ("loop", 0))

    def test_has_place(self):
        program = double()
        for place in program.places():
            self.same(program.has_place(place), True)
        for place in [*strange_values(), ("loop", 3), ("loop", True), ["loop", 0], ("round", 0)]:
            self.same(program.has_place(place), False)
        self.same([Program().has_place(("loop", 0)), Program().has_place(("between", 0))], [False, True])

    def test_places(self):
        self.same(
            list(double().places()),
            [("ahead", 0), ("ahead", 1), ("loop", 0), ("loop", 1), ("loop", 2), ("between", 0), ("between", 1),
             ("second", 0), ("second", 1), ("behind", 0), ("behind", 1)],
        )
        self.same(list(Program([Make("x")]).places()), [("ahead", 0), ("ahead", 1), ("between", 0), ("behind", 0)])
        self.same(list(Program(loop=[]).places()), [("ahead", 0), ("loop", 0), ("between", 0), ("behind", 0)])


class Refused(Helping, unittest.TestCase):
    def test_parts(self):
        make = [Make("x")]
        wrong = make * 300
        for call, part in (
            (lambda: Program(wrong, None, make, make, make, given=[1]), "between"),
            (lambda: Program(wrong, None, (), make, make, given=[1]), "second"),
            (lambda: Program(wrong, None, (), [], make, given=[1]), "second"),
            (lambda: Program(wrong, None, (), None, make, given=[1]), "behind"),
            (lambda: Program(wrong, make, make, None, make, given=[1]), "between"),
        ):
            self.refused(BadPart, call, part)
        self.assertEqual(Program([], [], [], None, []), Program(loop=()))

    def test_sizes(self):
        make = [Make("x")]
        Program(make * 200, make * 24, (), make * 24)
        Program(make * 128, make * 24, make * 24, make * 24, make * 24, given=["a"])
        Program(make * 176, make * 24, (), None, make * 24)
        for call, most in (
            (lambda: Program(make * 201, make * 25, given=[1]), 200),
            (lambda: Program(make * 200, make * 25, make, [], given=[1]), 24),
            (lambda: Program(make * 200, [], make * 25, [], given=[1]), 24),
            (lambda: Program(make * 200, [], [], make * 25, make, given=[1]), 24),
            (lambda: Program(make * 200, [], [], None, make * 25, given=[1]), 24),
            (lambda: Program(make * 200, [], make, [], given=[1]), 200),
            (lambda: Program(make * 177, [], make * 0, None, make * 24, given=[1]), 200),
            (lambda: Program(make * 153, [], make * 24, make * 24, make * 24, given=[1]), 200),
        ):
            self.refused(TooMany, call, most)

    def test_names(self):
        for value in strange_values():
            self.refused(BadName, lambda: Program(given=["a", "a", value, 7], again={"A": 1}), value)
            self.refused(BadName, lambda: Program(again={"c": 1}, results=["a", "a", value, 7]), value)
        self.refused(Twice, lambda: Program(given=["b", "a", "b", "a"], again={"A": 1}), "b")
        self.refused(BadName, lambda: Program(again={"b": 7, "A": 1, "a1": 10}, results=[1]), "A")
        self.refused(BadName, lambda: Program(again={"b": 7, "b1": 1, "a1": 10}, results=[1]), "a1")
        self.refused(Twice, lambda: Program([Use("q")], results=["b", "b"]), "b")
        for value in [*strange_values(), 10, -1, 10 ** 59, "1"]:
            if value.__class__ is not int or not 0 <= value <= 9:
                self.refused(BadPrice, lambda: Program(again={"c": "x", "b": value, "a": 9}, results=[1]), value)

    def test_number_of_names(self):
        six = ["a", "b", "c", "d", "e", "f"]
        self.same(len(Program([Use("a"), Make("x")], given=six[:5]).names), 6)
        for call in (
            lambda: Program([Use("q")], given=six, again={"g": 1}),
            lambda: Program([Use("g")], given=six),
            lambda: Program(loop=[Make("g")], given=six),
            lambda: Program(given=six, results=["g"]),
            lambda: Program(loop=[], behind=[Do("g", "q")], given=six[:5]),
        ):
            self.refused(TooMany, call, 6)

    def test_values_that_may_be_nowhere(self):
        make, use = [Make("x")], [Use("x")]
        for call, place in (
            (lambda: Program(use), ("ahead", 0)),
            (lambda: Program([Use("x"), Make("x")]), ("ahead", 0)),
            (lambda: Program([Do("x", "x")]), ("ahead", 0)),
            (lambda: Program(loop=use + make), ("loop", 0)),
            (lambda: Program(loop=make, behind=use), ("behind", 0)),
            (lambda: Program([], make, use, []), ("between", 0)),
            (lambda: Program([], make, [], use), ("second", 0)),
            (lambda: Program([], [], [], make, use), ("behind", 0)),
            (lambda: Program([], [], use, [], make), ("between", 0)),
            (lambda: Program([], make, (), make, make, results=["x"]) and Program(use), ("ahead", 0)),
            (lambda: Program([], make, results=["x"]), ("behind", 0)),
            (lambda: Program([], make, [], make, [Make("y")], results=["y", "x"]), ("behind", 1)),
        ):
            self.refused(Unmade, call, place, "x")
        for program in (
            Program(make + use, use, use, use, use, results=["x"]), Program([], make + use),
            Program([], [], make, use, use, results=["x"]), Program([], use, given=["x"], results=["x"]),
            Program([], use, again={"x": 0}, results=["x"]), Program([], [], behind=make + use, results=["x"]),
        ):
            self.assertIsInstance(program, Program)
        self.refused(Unmade, lambda: Program([Use("b", "c", "a")], given=["b"]), ("ahead", 0), "c")
        self.refused(Unmade, lambda: Program([], [Make("c"), Make("b")], results=["c", "b"]), ("behind", 0), "b")

    def test_again_names_are_not_made(self):
        self.refused(MadeAgain, lambda: Program([], [Use("x"), Make("x")], again={"x": 1}), ("loop", 1), "x")
        self.refused(MadeAgain, lambda: Program([Do("x", "x")], again={"x": 1}, given=["x"]), ("ahead", 0), "x")
        self.refused(Unmade, lambda: Program([Do("x", "y")], again={"x": 1}), ("ahead", 0), "y")
        self.refused(MadeAgain, lambda: Program([Make("x"), Use("y")], again={"x": 1}), ("ahead", 0), "x")
        self.refused(MadeAgain, lambda: Program([Make("x")], again={"x": 1}, results=["y"]), ("ahead", 0), "x")


class Changed(Helping, unittest.TestCase):
    def test_straight(self):
        program = double()
        straight = program.straight(2, 1)
        self.same(
            texts(straight.ahead),
            ["make x", "use a", "do y x", "use a", "do y x", "make z", "use z", "use x z"],
        )
        self.same(
            [straight.loop, straight.second, straight.between, straight.behind, straight.given, straight.again,
             straight.results],
            [None, None, (), (), ("a", "b"), {"b": 0, "c": 3}, ("x", "z")],
        )
        self.same(texts(program.straight().ahead), ["make x", "make z", "use x z"])
        self.same(len(program.straight(m=4, n=0).ahead), 7)
        self.assertEqual(straight.straight(), straight)
        self.assertEqual(Program(loop=[], given=["a"]).straight(FAR), Program(given=["a"]))
        self.assertEqual(Program([Make("x")], [], [], []).straight(FAR, FAR), Program([Make("x")]))

    def test_straight_refuses(self):
        for value in strange_values():
            self.refused(BadNumber, lambda: Program().straight(value, -3), value)
            self.refused(BadNumber, lambda: Program().straight(1, value), value)
        self.refused(NoLoop, lambda: Program([Make("x")] * 200).straight(1))
        self.refused(NoLoop, lambda: turns().straight(500, 1))
        self.refused(NoLoop, lambda: Program(loop=[]).straight(0, FAR))
        self.refused(TooMany, lambda: turns().straight(67), 200)
        self.refused(TooMany, lambda: turns().straight(FAR), 200)
        self.refused(TooMany, lambda: double().straight(0, FAR), 200)
        self.same(len(turns().straight(66).ahead), 198)
        full = Program([Make("x")] * 198, [Make("x")], [Make("x")], [Make("x")])
        self.same(len(full.straight(1, 0).ahead), 200)
        self.refused(TooMany, lambda: full.straight(1, 1), 200)

    def test_body_written_several_times(self):
        program = Program([Make("x")], [Use("a"), Make("y")], behind=[Use("x")], given=["a"], results=["x"])
        self.assertEqual(program ** 1, program)
        twice = program ** 2
        self.same(texts(twice.loop), ["use a", "make y"] * 2)
        for n in range(5):
            self.assertEqual(twice.straight(n), program.straight(2 * n))
        self.same(len((program ** 12).loop), 24)
        self.refused(TooMany, lambda: program ** 13, 24)
        self.refused(TooMany, lambda: program ** FAR, 24)
        self.assertEqual(Program(loop=[], again={"a": 1}) ** FAR, Program(loop=[], again={"a": 1}))

    def test_rounds_put_ahead(self):
        program = Program([Make("x")], [Use("a"), Make("y")], behind=[Use("x")], given=["a"], results=["x"])
        self.assertEqual(program.unrolled(0), program)
        ahead = program.unrolled(1)
        self.same([texts(ahead.ahead), texts(ahead.loop)], [["make x", "use a", "make y"], ["use a", "make y"]])
        for n in range(5):
            self.assertEqual(ahead.straight(n), program.straight(n + 1))
            self.assertEqual(program.unrolled(3).straight(n), program.straight(n + 3))
        self.same(len(program.unrolled(99).ahead), 199)
        self.refused(TooMany, lambda: program.unrolled(100), 200)
        self.refused(TooMany, lambda: program.unrolled(FAR), 200)
        self.assertEqual(Program(loop=[]).unrolled(FAR), Program(loop=[]))

    def test_loop_begun_elsewhere(self):
        program = Program([Make("x")], [Use("a"), Make("y"), Use("y")], behind=[Use("x")], given=["a"], results=["x"])
        turned = program.turned(2)
        self.same(
            [texts(turned.ahead), texts(turned.loop), texts(turned.behind)],
            [["make x", "use a", "make y"], ["use y", "use a", "make y"], ["use y", "use x"]],
        )
        for j in range(4):
            self.same(len(program.turned(j).ahead), 1 + j)
            for n in range(5):
                self.assertEqual(program.turned(j).straight(n), program.straight(n + 1))
        full = Program(loop=[Make("x")] * 24, behind=[Make("x")] * 20)
        self.same(len(full.turned(20).behind), 24)
        self.refused(TooMany, lambda: full.turned(19), 24)
        self.assertEqual(Program(loop=[]).turned(0), Program(loop=[]))
        self.refused(TooMany, lambda: Program([Make("x")] * 199, [Make("x")] * 2).turned(2), 200)
        self.refused(TooMany, lambda: Program([Make("x")] * 199, [Make("x")] * 2).turned(0), 200)

    def test_changes_refuse(self):
        straight, one = Program(), turns()
        for value in strange_values():
            for program in (straight, one, double()):
                self.refused(BadNumber, lambda: program ** value, value)
                self.refused(BadNumber, lambda: program.unrolled(value), value)
                self.refused(BadNumber, lambda: program.turned(value), value)
        self.refused(BadNumber, lambda: straight ** 0, 0)
        self.refused(BadNumber, lambda: one.turned(4), 4)
        self.refused(BadNumber, lambda: double().turned(3), 3)
        self.refused(BadNumber, lambda: Program(loop=[]).turned(1), 1)
        for call in (lambda: straight ** FAR, lambda: straight.unrolled(0), lambda: straight.turned(FAR)):
            self.refused(NoLoop, call)
        for call in (lambda: double() ** FAR, lambda: double().unrolled(FAR), lambda: double().turned(2)):
            self.refused(TwoLoops, call)

    def test_renamed(self):
        program = double()
        self.same(
            str(program.renamed({"x": "a", "a": "x", "q": "b", "y": "end"})).split("\n"),
            ["given b x", "again b 0", "again c 3", "results a z", "make a", "loop", "use x", "do end a", "end",
             "make z", "second", "use z", "end", "use a z"],
        )
        self.assertEqual(program.renamed({}), program)
        self.assertEqual(Program().renamed({"a": "b", "b": "b"}), Program())
        swapped = program.renamed({"b": "c", "c": "b"})
        self.same([swapped.again, swapped.given], [{"b": 3, "c": 0}, ("a", "c")])
        self.same(Program([Use("b", "a")], given=["a", "b"]).renamed({"b": "z"}).ahead[0].uses, ("z", "a"))

    def test_renamed_refuses(self):
        program = double()
        for value in strange_values():
            self.refused(BadName, lambda: program.renamed({"z": 1, "q": value, "b": "a"}), value)
        self.refused(Twice, lambda: program.renamed({"z": "y", "b": "a"}), "a")
        self.refused(Twice, lambda: program.renamed({"a": "z", "b": "z", "c": "x"}), "x")
        self.refused(Twice, lambda: program.renamed({"a": "q", "b": "q"}), "q")


if __name__ == "__main__":
    unittest.main()
