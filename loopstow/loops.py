"""Loops: the least prices for all numbers of rounds."""

from loopstow.errors import TooMany
from loopstow.programs import check_one_loop
from loopstow.rounds import Rounds, turning_of
from loopstow.rows import Row
from loopstow.straight import least_price


def row(task, most=120):
    """The row of the least prices for n rounds."""
    check_one_loop(task.program)
    return row_of_rounds(task, Rounds(task), most)


def row_of_rounds(task, rounds, most):
    """The row of the least prices for n of these rounds."""
    turning = turning_of(rounds, most)
    if turning.found is None:
        raise TooMany(most)
    since, period, gain = turning.found
    ends = rounds.closing()[0].costs
    prices = [
        min([int(cost + end) for cost, end in zip(turning.tables[r], ends)]) for r in range(since + period)
    ]
    return Row([least_price(task), *prices], period, gain)
