"""The desk: answers lines of text about a task of its own."""

from loopstow.bench import play
from loopstow.courses import Course
from loopstow.errors import BadPlan, StowError
from loopstow.grids import Grid
from loopstow.lines import words_of_line
from loopstow.loops import row
from loopstow.needed import needed
from loopstow.pace import pace
from loopstow.prices import Prices
from loopstow.reader import read_plan, read_program
from loopstow.rules import Rule, beaten, rule_row
from loopstow.straight import least_plan, least_price
from loopstow.tables import turn
from loopstow.tasks import Task
from loopstow.texts import show_plan, show_program


class Desk:
    """Carries out lines, one after another."""

    def __init__(self):
        self._task = None

    @property
    def task(self):
        """The desk's own task, or None."""
        return self._task

    def say(self, line):
        """Carries out a line and returns the answer."""
        word, *words = words_of_line(line)
        if self._task is None and word != "program":
            return "no task"
        try:
            if word in ("program", "slots", "prices"):
                self._task = other_task(self._task, word, words)
                return "ok"
            if word in ("rule", "beaten"):
                return answer_of_rule(self._task, word, Rule(*words))
            return answer(self._task, word, words)
        except StowError as why:
            return f"refused {why.class_name()}"

    def run(self, *lines):
        """Carries out lines and returns the answers."""
        return [self.say(line) for line in lines]


def other_task(task, word, words):
    """The task that takes the place of the desk's own one."""
    if word == "program":
        program = read_program(in_lines(words[0]))
        return Task(program, program.room)
    if word == "slots":
        return task.with_slots(int(words[0]))
    return Task(task.program, task.slots, Prices(int(words[0]), int(words[1])))


def answer(task, word, words):
    """The answer to a line that changes nothing and has no rule."""
    if word == "show":
        return in_one_line(show_program(task.program))
    if word == "row":
        return str(row(task))
    if word == "pace":
        return spaced(pace(task))
    if word == "turn":
        return spaced(turn(task))
    if word == "needed":
        return " ".join(needed(task.program, (words[0], int(words[1])))) or "-"
    if word == "play":
        return answer_of_play(task, int(words[0]), in_lines(words[1]))
    rounds = [int(number) for number in words]
    if word == "price":
        return str(price_of_rounds(task, rounds))
    if word == "least":
        return in_one_line(show_plan(least_plan(task, rounds[0])))
    return in_one_line(show_plan(Course(task).moves(rounds[0], rounds[1])))


def answer_of_rule(task, word, rule):
    """The answer to a line with a rule."""
    if word == "rule":
        return str(rule_row(task, rule))
    found = beaten(task, rule)
    return "never" if found is None else str(found)


def answer_of_play(task, n, text):
    """The price of the plan with this text, or where it is wrong."""
    try:
        return str(play(task, read_plan(text), n))
    except BadPlan as why:
        return "wrong -" if why.at is None else f"wrong {why.at}"


def price_of_rounds(task, rounds):
    """The least price of one or two numbers of rounds."""
    if len(rounds) == 2:
        return Grid(task)[rounds[0], rounds[1]]
    if task.program.loop is None:
        return least_price(task, rounds[0])
    return row(task)[rounds[0]]


def spaced(numbers):
    """Some numbers with spaces between."""
    return " ".join([str(number) for number in numbers])


def in_lines(text):
    """The text of a line, with its newlines."""
    return text.replace(" ; ", "\n")


def in_one_line(text):
    """A text as it stands in a line."""
    return text.replace("\n", " ; ")
