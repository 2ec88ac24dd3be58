"""The interface: its names, arguments and classes, each where the document lists it, and which module needs which."""

import ast
import importlib
import inspect
import os
import unittest

import loopstow

FOLDER = os.path.dirname(os.path.abspath(loopstow.__file__))
MODULES = (
    "errors deeds texts programs rows prices moves standings needed tasks bench straight floors tables loops courses"
    " papers looker pace rules grids slots orders pins reader desk"
).split()
FUNCTIONS = {
    "needed": ["needed(program, place, *, first=True, further=True, second=True)"],
    "bench": ["play(task, plan, n=0, m=0)"],
    "straight": ["least_price(task, n=0, m=0)", "least_plan(task, n=0, m=0)"],
    "floors": ["floors(task)", "shows_least(task, price, tables)"],
    "tables": ["table(task, r)", "to_go(task)", "turn(task, most=120)"],
    "loops": ["row(task, most=120)"],
    "papers": ["paper(task, most=120)"],
    "looker": ["shows_row(task, row, paper)"],
    "pace": ["pace(task)", "pace_paper(task)", "shows_pace(task, pace, paper)"],
    "rules": [
        "rule_plan(task, rule, n=0, m=0)", "rule_price(task, rule, n=0, m=0)", "rule_row(task, rule, most=120)",
        "beaten(task, rule, most=120)",
    ],
    "slots": ["fewest_slots(program, prices, pace)"],
    "orders": ["orders(deeds)", "order_rows(task, most=120)", "best_order(task, most=120)"],
    "pins": ["pinned_row(task, names, most=120)"],
    "texts": ["show_program(program)", "show_plan(plan)"],
    "reader": ["read_program(text)", "read_plan(text)"],
}
CLASSES = {
    "deeds": {
        "Deed": "room names read __eq__ __str__ MOST", "Use(*names)": "", "Make(name)": "", "Do(name, *names)": "",
    },
    "programs": {
        "Program(ahead=(), loop=None, between=(), second=None, behind=(), *, given=(), again=None, results=())":
            "ahead loop between second behind given results names again loops room deed_at(place) places()"
            " straight(n=0, m=0) __pow__ unrolled(j) turned(j) renamed(names) read(text) __str__ __eq__",
    },
    "rows": {
        "Row(numbers, period, step)":
            "MOST even(first, step) start period step first pace __getitem__ numbers(n) __add__ __radd__ __sub__ __rsub__"
            " __mul__ __rmul__ __neg__ __floordiv__ __mod__ __rshift__ every(j) __and__ __or__ __le__ __ge__ __eq__"
            " above(other) __str__ read(text)",
    },
    "prices": {"Prices(load, store, loads=None)": "MOST load store loads load_of(name) __mul__ __rmul__ __eq__"},
    "moves": {
        "Move(name)": "__str__ read(text) __eq__", "Bring(name)": "", "Store(name)": "", "Forget(name)": "",
        "Load(name)": "", "Again(name)": "",
    },
    "standings": {
        "Standing(slots=(), stored=())":
            "slots stored names __contains__ __le__ __ge__ __or__ only(names) __eq__ __str__ read(text)",
    },
    "tasks": {
        "Task(program, slots, prices=None)":
            "program prices start slots set_slots(slots) with_slots(slots) after(standing,thing) price_of(move)"
            " standings(place,*,first=True,further=True,second=True) straight(n=0,m=0) __eq__",
    },
    "bench": {
        "Bench(task, n=0, m=0)":
            "cells standing paid done deed is_right move(move) advance() __getitem__ __setitem__ put(i,name) __call__"
            " trial() tried(deed)",
    },
    "courses": {
        "Course(task, most=120)": "row head(n) moves(n,r) tail(n) standing_at(n,r) spent(n,r) __call__",
    },
    "rules": {"Rule(*words, pins=())": "words pins WORDS __eq__"},
    "grids": {"Grid(task, most=60)": "__getitem__ along(m) down(n)"},
    "desk": {"Desk()": "say(line) run(*lines) task"},
}


def module(name):
    return importlib.import_module(f"loopstow.{name}")


def arguments(called, own=False):
    """The arguments of a function, or of a method without its own object, as text."""
    told = list(inspect.signature(called).parameters.values())[1 if own else 0:]
    return "(" + ", ".join(str(one) for one in told if str(one) != "*") + ")"


def plainly(text):
    """A text of arguments without spaces and without the bare star."""
    return text.replace(" ", "").replace("(*,", "(").replace(",*,", ",")


def needs(name):
    """The modules of the package that a file imports from."""
    with open(os.path.join(FOLDER, name + ".py"), encoding="utf-8") as file:
        tree = ast.parse(file.read())
    rows = [row for row in tree.body if isinstance(row, ast.ImportFrom)]
    return [row.module.partition(".")[2] for row in rows if row.module.startswith("loopstow.")]


def defined(name):
    """The functions and classes that a file defines."""
    with open(os.path.join(FOLDER, name + ".py"), encoding="utf-8") as file:
        tree = ast.parse(file.read())
    return {row.name: row for row in tree.body if isinstance(row, (ast.FunctionDef, ast.ClassDef))}


class Interface(unittest.TestCase):
    def test_functions(self):
        for name, told in FUNCTIONS.items():
            for text in told:
                word, _, rest = text.partition("(")
                self.assertIsInstance(defined(name).get(word), ast.FunctionDef, text)
                self.assertEqual(plainly(arguments(getattr(module(name), word))), plainly("(" + rest), text)

    def test_classes(self):
        for name, told in CLASSES.items():
            for text, members in told.items():
                word, _, rest = text.partition("(")
                self.assertIsInstance(defined(name).get(word), ast.ClassDef, text)
                found = getattr(module(name), word)
                if rest:
                    self.assertEqual(plainly(arguments(found)), plainly("(" + rest), text)
                own = {row.name for row in defined(name)[word].body if isinstance(row, ast.FunctionDef)}
                for member in members.replace("n=0, m=0", "n=0,m=0").replace("first, step", "first,step").split():
                    plain, _, rest = member.partition("(")
                    self.assertIn(plain, vars(found), member)
                    if plain.isupper():
                        continue
                    self.assertIn(plain, own, member)
                    if rest:
                        held = inspect.getattr_static(found, plain)
                        bound = isinstance(held, (staticmethod, classmethod))
                        self.assertEqual(plainly(arguments(getattr(found, plain), not bound)), plainly("(" + rest), member)

    def test_keywords(self):
        """Arguments behind a star are passed by name only."""
        for called, names in (
            (module("needed").needed, ["first", "further", "second"]), (module("rules").Rule, ["pins"]),
            (module("tasks").Task.standings, ["first", "further", "second"]),
            (module("programs").Program, ["given", "again", "results"]),
        ):
            told = inspect.signature(called).parameters.values()
            self.assertEqual([one.name for one in told if one.kind == one.KEYWORD_ONLY], names)

    def test_generators(self):
        for called in (
            module("programs").Program.places, module("rows").Row.numbers, module("tasks").Task.standings,
            module("orders").orders,
        ):
            self.assertTrue(inspect.isgeneratorfunction(called))

    def test_modules_need_those_ahead_of_them(self):
        """Straight or by a module that helps; those that help are no part of the interface."""
        names = sorted(file[:-3] for file in os.listdir(FOLDER) if file.endswith(".py") and file != "__init__.py")
        self.assertLessEqual(set(MODULES), set(names))
        for at, name in enumerate(MODULES):
            known, todo = set(), [name]
            while todo:
                for other in needs(todo.pop()):
                    if other not in known:
                        known.add(other)
                        todo.append(other)
            self.assertLessEqual(known & set(MODULES), set(MODULES[:at]), name)

    def test_nothing_else_is_imported_for_the_interface(self):
        for name in [*FUNCTIONS, *CLASSES]:
            listed = [text.partition("(")[0] for text in [*FUNCTIONS.get(name, []), *CLASSES.get(name, {})]]
            for word in listed:
                self.assertEqual(getattr(module(name), word).__module__, f"loopstow.{name}")


if __name__ == "__main__":
    unittest.main()
