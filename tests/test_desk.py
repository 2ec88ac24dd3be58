"""The desk [12]."""

import random
import re
import unittest

from helping import Helping, strange_values
from loopstow.bench import play
from loopstow.courses import Course
from loopstow.deeds import Use
from loopstow.desk import Desk
from loopstow.errors import BadLine, BadPlan, BadSlots, NoRoom, StowError
from loopstow.grids import Grid
from loopstow.loops import row
from loopstow.needed import needed
from loopstow.pace import pace
from loopstow.prices import Prices
from loopstow.programs import Program
from loopstow.reader import read_plan, read_program
from loopstow.rules import Rule, beaten, rule_row
from loopstow.straight import least_plan, least_price
from loopstow.tables import turn
from loopstow.tasks import Task
from loopstow.texts import show_plan, show_program
from plainly import drawn_program
from plainread import spoiled_text

WORDS = ("dead", "far", "old", "clean", "cheap")
NUMBER = r"(0|[1-9][0-9]{0,29})\Z"
KINDS = {
    "N": NUMBER, "K": r"[0-9]\Z", "PART": r"(ahead|loop|between|second|behind)\Z", "WORD": f"({'|'.join(WORDS)})\\Z",
}
LINES = {
    "program": ["TEXT"], "slots": ["K"], "prices": ["K", "K"], "show": [], "row": [], "pace": [], "turn": [],
    "price": ["N", "N"], "least": ["N"], "play": ["N", "TEXT"], "moves": ["N", "N"], "rule": ["WORD"] * 99,
    "beaten": ["WORD"] * 99, "needed": ["PART", "N"],
}
LEAST = {"price": 1, "rule": 1, "beaten": 1}


def line_fault(line):
    """The index of the first word of a line that cannot stand, or the number of words if one is missing, or None."""
    words = line.split(" ")
    if words[0] not in LINES:
        return 0
    kinds = LINES[words[0]]
    for index, word in enumerate(words[1:], 1):
        kind = kinds[index - 1] if index <= len(kinds) else None
        if kind == "TEXT":
            return None
        if kind is None or not re.match(KINDS[kind], word):
            return index
    return len(words) if len(words) - 1 < LEAST.get(words[0], len(kinds)) else None


def in_line(text):
    return text.replace("\n", " ; ")


def in_text(line):
    return line.replace(" ; ", "\n")


class Held:
    """A desk of the tests' own, which calls the functions of the package."""

    def __init__(self):
        self.task = None

    def say(self, line):
        if line_fault(line) is not None:
            raise BadLine(line_fault(line))
        word = line.split(" ")[0]
        if self.task is None and word != "program":
            return "no task"
        try:
            if word in ("program", "play"):
                rest = line.split(" ", 1 if word == "program" else 2)
                return getattr(self, word)(*rest[1:])
            return getattr(self, word)(*line.split(" ")[1:])
        except StowError as why:
            return f"refused {type(why).__name__}"

    def program(self, text):
        program = read_program(in_text(text))
        self.task = Task(program, program.room, Prices(1, 1))
        return "ok"

    def slots(self, number):
        self.task = Task(self.task.program, int(number), self.task.prices)
        return "ok"

    def prices(self, load, store):
        self.task = Task(self.task.program, self.task.slots, Prices(int(load), int(store)))
        return "ok"

    def show(self):
        return in_line(show_program(self.task.program))

    def row(self):
        return str(row(self.task))

    def pace(self):
        return "{} {}".format(*pace(self.task))

    def turn(self):
        return "{} {} {}".format(*turn(self.task))

    def price(self, n, m=None):
        if m is not None:
            return str(Grid(self.task)[int(n), int(m)])
        if self.task.program.loops == 0:
            return str(least_price(self.task, int(n)))
        return str(row(self.task)[int(n)])

    def least(self, n):
        return in_line(show_plan(least_plan(self.task, int(n))))

    def play(self, n, text):
        try:
            return str(play(self.task, read_plan(in_text(text)), int(n)))
        except BadPlan as why:
            return f"wrong {'-' if why.at is None else why.at}"

    def moves(self, n, r):
        return in_line(show_plan(Course(self.task).moves(int(n), int(r))))

    def rule(self, *words):
        rule = Rule(*words)
        return str(rule_row(self.task, rule))

    def beaten(self, *words):
        rule = Rule(*words)
        found = beaten(self.task, rule)
        return "never" if found is None else str(found)

    def needed(self, part, index):
        return " ".join(needed(self.task.program, (part, int(index)))) or "-"


def drawn_line(source, desk):
    """A line that fits, about the task of a desk."""
    number = lambda: str(source.choice([0, 1, 1, 2, 2, 3, 4, 7, 66, 10 ** 9, 10 ** 29 + 7]))
    small = lambda: str(source.choice([0, 1, 2, 3]))
    word = source.choice(list(LINES))
    if word == "program":
        return "program " + in_line(show_program(drawn_program(source, loops=source.choice((0, 1, 1, 1, 2)), names="abc")))
    if word == "play":
        n = small()
        try:
            plan = show_plan(least_plan(desk.task, int(n)))
        except (AttributeError, StowError):
            plan = "load a\n-"
        return f"play {n} " + in_line(spoiled_text(source, plan) if source.random() < 0.5 else plan)
    kinds = LINES[word][:source.choice((1, 2)) if word == "price" else 3]
    if word in ("rule", "beaten"):
        return " ".join([word, *(source.choice(WORDS) for _ in range(source.choice((1, 1, 2, 3))))])
    told = {"K": lambda: str(source.randrange(6)), "N": number, "PART": lambda: source.choice(
        ["ahead", "loop", "between", "second", "behind"])}
    if word == "needed":
        return f"needed {told['PART']()} {source.randrange(5)}"
    if word == "moves":
        return f"moves {number()} {number()}"
    return " ".join([word, *(told[kind]() for kind in kinds)])


class Desks(Helping, unittest.TestCase):
    def test_document(self):
        desk = Desk()
        self.same(
            desk.run("row", "program given a b c ; loop ; use a ; use b ; use c ; end", "row", "slots 2", "row",
                     "price 100", "beaten old"),
            ["no task", "ok", "| 0 + 3", "ok", "0 | 3 4 + 3", "151", "2"],
        )
        self.same(
            desk.run("slots 0", "play 1 load a ; load b ; - ; -", "needed loop 1"), ["refused BadSlots", "wrong 2", "a b c"],
        )
        self.refused(BadLine, lambda: desk.say("price 01"), 1)

    def test_class(self):
        for name in ("say", "run"):
            self.assertIn(name, vars(Desk))
        self.assertIsInstance(vars(Desk)["task"], property)
        desk = Desk()
        self.same([desk.task, desk.run(), desk.say(line="row"), desk.run("show")], [None, [], "no task", ["no task"]])
        with self.assertRaises(AttributeError):
            desk.task = Task(Program(), 1)

    def test_each_line(self):
        desk = Desk()
        for line, answer in (
            ("program given a b c d ; loop ; use a ; use b ; use c ; use d ; end", "ok"), ("slots 2", "ok"),
            ("prices 2 9", "ok"), ("show", "given a b c d ; loop ; use a ; use b ; use c ; use d ; end"),
            ("row", "0 | 8 12 18 + 16"), ("pace", "16 3"), ("turn", "1 3 16"), ("price 0", "0"), ("price 3", "18"),
            ("price 3000000000000000000000000001", str(row(desk_task(2, 9))[3 * 10 ** 27 + 1])), ("least 0", "-"),
            ("play 0 -", "0"), ("play 0 load a", "2"), ("play 0 load b, forget b", "2"), ("play 0 load e", "wrong 0"),
            ("play 1 -", "wrong -"), ("play 1 load a ; load b ; forget a, load c ; forget b, load d ; -", "8"),
            ("play 1 load a ; - ; - ; - ; -", "wrong 1"), ("play 0 store a", "wrong 0"), ("play 0 load", "refused BadText"),
            ("play 0 ", "refused BadText"), ("moves 1 0", "load a ; load b ; forget a, load c ; forget b, load d"),
            ("moves 1 1", "refused BadNumber"), ("moves 0 0", "refused BadNumber"), ("rule old", "| 0 + 8"),
            ("beaten old", "2"), ("beaten far", "never"), ("rule far", "0 | 8 12 18 + 16"), ("rule far far", "refused BadRule"),
            ("needed ahead 0", "a b c d"), ("needed behind 0", "-"), ("needed behind 1", "refused BadPlace"),
            ("needed second 0", "refused BadPlace"), ("price 1 1", "refused OneLoop"), ("least 50", None),
            ("least 51", "refused TooMany"), ("slots 5", "refused BadSlots"), ("slots 9", "refused BadSlots"),
            ("program", 1), ("program ", "ok"), ("show", ""), ("row", "refused NoLoop"), ("pace", "refused NoLoop"),
            ("turn", "refused NoLoop"), ("price 0", "0"), ("price 1", "refused NoLoop"), ("price 0 0", "refused NoLoop"),
            ("least 0", "-"), ("play 0 -", "0"), ("moves 0 0", "refused NoLoop"), ("rule old", "refused NoLoop"),
            ("rule old old", "refused BadRule"), ("beaten old old", "refused BadRule"), ("needed ahead 0", "-"),
        ):
            if isinstance(answer, int):
                self.refused(BadLine, lambda: desk.say(line), answer)
            elif line.startswith("moves 1 0"):
                told = desk.say(line)
                self.same(told, in_line(show_plan(Course(desk.task).moves(1, 0))))
                self.same(desk.say(f"play 1 {told} ; -") in ("8", "wrong 2", "wrong 3"), True)
            elif answer is None:
                self.same(desk.say(f"play 50 {desk.say(line)}"), desk.say("price 50"))
            else:
                self.same([line, desk.say(line)], [line, answer])

    def test_two_loops(self):
        desk = Desk()
        self.same(desk.run(
            "program given a b c d ; loop ; use a ; use b ; use c ; end ; second ; use c ; use d ; end", "slots 2",
            "price 0 3", "price 2 0", "price 2 1", "price 100000000000000000000 100000000000000000000", "price 2", "row",
            "pace", "turn", "moves 1 0", "rule old", "beaten old", "least 0", "least 1", "play 1 load a ; load b ; forget b, load c ; -",
            "needed between 0", "needed second 2", "show",
        ), [
            "ok", "ok", "2", "4", "5", desk_price(), "refused TwoLoops", "refused TwoLoops", "refused TwoLoops",
            "refused TwoLoops", "refused TwoLoops", "refused TwoLoops", "refused TwoLoops", "-",
            in_line(show_plan(least_plan(desk.task, 1))), "3", "c d", "c d",
            "given a b c d ; loop ; use a ; use b ; use c ; end ; second ; use c ; use d ; end",
        ])

    def test_empty_loops(self):
        desk = Desk()
        self.same(desk.run(
            "program given a ; loop ; end ; use a", "row", "pace", "turn", "moves 7 3", "price 999999999999999999999999999999",
            "rule dead cheap", "beaten far", "needed loop 0", "play 1000000 load a ; -",
        ), ["ok", "| 1 + 0", "0 1", "0 1 0", "", "1", "| 1 + 0", "never", "a", "1"])
        self.same(desk.say("play 1000000 " + desk.say("least 1000000")), "1")

    def test_lines_that_are_refused(self):
        desk = Desk()
        for value in strange_values():
            if value != "a b":
                self.refused(BadLine, lambda: desk.say(value), 0)
        for line, word in (
            ("", 0), (" row", 0), ("Row", 0), ("rows", 0), ("row\n", 0), ("row ", 1), ("row 1", 1), ("show x", 1), ("slots", 1),
            ("slots ", 1), ("slots 10", 1), ("slots 01", 1), ("slots -1", 1), ("slots 2 ", 2), ("slots 2 3", 2), ("slots \u0663", 1),
            ("prices 1", 2), ("prices 1 ", 2), ("prices 12 1", 1), ("prices 1 12", 2), ("prices 1 1 1", 3), ("prices  1 1", 1),
            ("price", 1), ("price ", 1), ("price 1 ", 2), ("price 1 2 3", 3), ("price 1 2 ", 3), ("price 1  2", 2), ("price x", 1),
            ("price 00", 1), ("price 1 01", 2), ("price +1", 1), ("price 1.0", 1), ("price " + "9" * 31, 1), ("price 1 " + "1" * 31, 2),
            ("least", 1), ("least 1 2", 2), ("least -", 1), ("play", 1), ("play ", 1), ("play 1", 2), ("play 01 -", 1), ("play  -", 1),
            ("play -", 1), ("play 1\n-", 1), ("moves 1", 2), ("moves 1 2 3", 3), ("moves x y", 1), ("moves 1 y", 2), ("rule", 1),
            ("rule ", 1), ("rule Old", 1), ("rule old ", 2), ("rule old new", 2), ("rule old far a", 3), ("beaten", 1),
            ("beaten old,", 1), ("rule dead far old clean cheap x", 6), ("needed", 1), ("needed loop", 2), ("needed loop x", 2),
            ("needed Loop 1", 1), ("needed 1 loop", 1), ("needed loop 1 1", 3), ("needed loop ", 2), ("needed loop 01", 2),
            ("program", 1), ("program\nuse a", 0), ("programs x", 0), ("pace 1", 1), ("turn  ", 1), ("turn 0", 1), ("pro gram", 0),
        ):
            self.same(line_fault(line), word)
            for one in (desk, with_task()):
                self.refused(BadLine, lambda: one.say(line), word)
        for line in ("price " + "9" * 30, "needed second 123456789012345678901234567890", "program x", "play 5 ", "play 0  "):
            self.same(line_fault(line), None)
        self.same(with_task().say("price " + "9" * 30), str(row(with_task().task)[10 ** 30 - 1]))
        self.same(with_task().say("rule dead far old clean cheap dead"), "refused BadRule")

    def test_no_task(self):
        for line in ("slots 2", "slots 0", "prices 1 1", "show", "row", "pace", "turn", "price 1", "price 1 1", "least 0",
                     "play 0 nothing", "moves 0 0", "rule old old", "beaten far", "needed loop 0"):
            self.same(Desk().say(line), "no task")
        desk = Desk()
        self.same(desk.run("program use a", "row", "program use a", "slots 1"), [
            "refused Unmade", "no task", "refused Unmade", "no task",
        ])
        self.same(desk.task, None)

    def test_texts(self):
        """A newline that stands in a text stands for one; a text may be empty or begin with a space."""
        desk = Desk()
        for line, answer in (
            ("program given a\nuse a ; use a", "ok"), ("show", "given a ; use a ; use a"), ("play 0 load a\n- ; -", "1"),
            ("program given a ;  ; use a", "refused BadText"), ("program  use a", "refused BadText"),
            ("program given a ; use a ; ", "refused BadText"), ("program given a ;use a", "refused BadText"),
            ("program given a; use a", "refused BadText"), ("program ;", "refused BadText"), ("program \n", "refused BadText"),
            ("show", "given a ; use a ; use a"), ("play 0 -\n-\n-", "wrong 0"), ("play 0  -", "refused BadText"),
            ("play 0 -", "wrong -"), ("program  ; ", "refused BadText"), ("show", "given a ; use a ; use a"), ("program ", "ok"),
            ("show", ""), ("play 0 ", "refused BadText"), ("play 0 -", "0"),
            ("program loop ; make loop ; end ; second ; make end ; end", "ok"),
            ("show", "loop ; make loop ; end ; second ; make end ; end"),
        ):
            self.same([line, desk.say(line)], [line, answer])

    def test_refused_programs(self):
        desk = with_task()
        before = desk.task
        many = "given a b ; " + " ; ".join(f"again {name} 1" for name in "cdef") + " ; results c d e f ; "
        for text, name in (
            ("use a", "Unmade"), ("again a 1 ; make a", "MadeAgain"), ("given a b c d e f g", "TooMany"), ("use", "BadText"),
            ("loop", "BadText"), ("loop ; " + "make x ; " * 25 + "end", "TooMany"), ("given a ; results b", "Unmade"),
            (many + "loop ; use a b ; do a b ; end", None), (many + "loop ; use a b c ; end", "TooMany"),
        ):
            told = desk.say("program " + text)
            if name is None:
                self.same(told in ("ok", "refused TooMany"), True)
                desk = with_task()
                before = desk.task
            else:
                self.same([text, told], [text, "refused " + name])
                self.assertIs(desk.task, before)

    def test_another_task(self):
        """Slots and prices make another task; the one ahead stays as it was."""
        desk = with_task()
        one = desk.task
        self.same([one.slots, one.prices.load, one.prices.store], [1, 1, 1])
        self.same(desk.say("slots 3"), "ok")
        two = desk.task
        self.same([one.slots, two.slots], [1, 3])
        self.same(desk.say("prices 4 5"), "ok")
        three = desk.task
        self.same([three.slots, three.prices.load, three.prices.store, two.prices.load], [3, 4, 5, 1])
        self.assertEqual(three.program, one.program)
        for line in ("slots 0", "slots 7", "row", "price 5", "least 1", "rule old", "show"):
            desk.say(line)
            self.assertIs(desk.task, three)
        three.slots = 2
        self.same([desk.task.slots, desk.say("row")], [2, str(row(three))])
        self.refused(BadSlots, lambda: setattr(desk.task, "slots", 9), 9)
        desk.task.set_slots(1)
        self.same(desk.say("price 2"), str(row(three)[2]))
        wide = Desk()
        self.same(wide.run("program given a b ; loop ; use a b ; end", "slots 1"), ["ok", "refused NoRoom"])
        self.refused(NoRoom, lambda: setattr(wide.task, "slots", 1), ("loop", 0))
        self.same([wide.task.slots, wide.say("row")], [2, "0 | 2 + 0"])

    def test_held_against_the_functions(self):
        source = random.Random(641)
        answers = {}
        for _ in range(60):
            desk, held = Desk(), Held()
            for _ in range(15):
                line = drawn_line(source, held)
                told = held.say(line)
                self.same([line, desk.say(line)], [line, told])
                self.assertEqual(desk.task, held.task)
                answers[line.split(" ")[0], told.split(" ")[0] if told[:1] in ("n", "w", "r", "o") else ""] = True
        self.assertGreater(len(answers), 35)

    def test_one_by_one_and_at_once(self):
        source = random.Random(642)
        for _ in range(25):
            one, held = Desk(), Held()
            lines = []
            for _ in range(12):
                lines.append(drawn_line(source, held))
                held.say(lines[-1])
            answers = [one.say(line) for line in lines]
            self.same(Desk().run(*lines), answers)
            parts = Desk()
            self.same(parts.run(*lines[:5]) + parts.run() + parts.run(*lines[5:]), answers)
            self.assertEqual(parts.task, one.task)

    def test_lines_ahead_of_an_error(self):
        """If a line raises an error, those ahead of it have been carried out, and those behind it have not."""
        desk = Desk()
        self.refused(BadLine, lambda: desk.run("program given a ; use a", "slots 3", "row x", "slots 4"), 1)
        self.same([desk.task.slots, desk.say("show")], [3, "given a ; use a"])
        self.refused(BadLine, lambda: desk.run("prices 2 2", None, "prices 3 3"), 0)
        self.same(desk.task.prices.load, 2)

    def test_spoiled_lines(self):
        source = random.Random(643)
        wrong = 0
        for _ in range(400):
            held = Held()
            held.say("program given a b ; loop ; use a ; use b ; end")
            line = spoiled_text(source, drawn_line(source, held))
            fault = line_fault(line)
            desk = Desk()
            desk.say("program given a b ; loop ; use a ; use b ; end")
            before = desk.task
            if fault is None:
                self.same(desk.say(line), held.say(line))
            else:
                wrong += 1
                self.refused(BadLine, lambda: desk.say(line), fault)
                self.assertIs(desk.task, before)
        self.assertGreater(wrong, 100)


def with_task():
    """A desk with a task of one slot."""
    desk = Desk()
    desk.say("program given a b ; loop ; use a ; use b ; end")
    return desk


def desk_task(load, store):
    return Task(Program(loop=[Use(name) for name in "abcd"], given="abcd"), 2, Prices(load, store))


def desk_price():
    program = Program(loop=[Use("a"), Use("b"), Use("c")], second=[Use("c"), Use("d")], given=["a", "b", "c", "d"])
    return str(Grid(Task(program, 2))[10 ** 20, 10 ** 20])


if __name__ == "__main__":
    unittest.main()
