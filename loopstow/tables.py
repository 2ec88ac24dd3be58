"""The tables of one loop: what the rounds have cost, what is to go, and the turn of the tables."""

from loopstow.checks import is_count
from loopstow.errors import BadNumber, TooMany
from loopstow.programs import check_one_loop
from loopstow.rounds import Rounds, turning_of

MOST_ROUNDS = 400


def table(task, r):
    """The table of r rounds, from the texts of the sound standings at the head of a round."""
    check_one_loop(task.program)
    if not is_count(r) or r > MOST_ROUNDS:
        raise BadNumber(r)
    rounds = Rounds(task)
    turning = turning_of(rounds, r)
    index, more = turning.index_of(r)
    return dict(zip(rounds.head_ground.texts, [cost + more for cost in turning.tables[index]]))


def to_go(task):
    """The least prices from the standings at the head of the last round to the end."""
    check_one_loop(task.program)
    rounds = Rounds(task)
    return dict(zip(rounds.head_ground.texts, rounds.closing()[0].costs))


def turn(task, most=120):
    """The turn of the tables, (s, p, q)."""
    check_one_loop(task.program)
    found = turning_of(Rounds(task), most).found
    if found is None:
        raise TooMany(most)
    return found
