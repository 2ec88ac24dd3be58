"""Grids: the least prices of programs with two loops, for all numbers of rounds of both."""

from math import lcm

from loopstow.checks import is_count
from loopstow.errors import BadNumber, NoLoop, OneLoop, TooMany
from loopstow.halves import Halves, Spins
from loopstow.rows import Row
from loopstow.straight import least_price


class Grid:
    """The least price for each pair of numbers of rounds."""

    def __init__(self, task, most=60):
        check_two_loops(task.program)
        halves = Halves(task)
        turning, without = halves.turning_of_first(True, most), halves.turning_of_first(False, most)
        if turning.found is None or without.found is None:
            raise TooMany(most)
        self._turning = turning
        self._edge = edge_of(task, without, halves.rest_without().costs)
        spins = Spins(halves)
        known = turning.tables[:turning.found[0] + turning.found[1]]
        heads = [halves.head_without(), *[halves.head_behind(costs) for costs in known]]
        # The rows of the prices for 1, 2, .. rounds of the second loop.
        self._rows = [followed_row(spins, costs, most) for costs in heads]
        self._first_turn = first_turn_of(self._rows, turning.found)
        self._second_turn = second_turn_of(self._rows)

    @property
    def first_turn(self):
        """(N, p, q): from N on, p rounds more of the first loop cost q more, whenever the second one has a round."""
        return self._first_turn

    @property
    def second_turn(self):
        """(N, p, q): from N on, p rounds more of the second loop cost q more, whenever the first one has a round."""
        return self._second_turn

    def __getitem__(self, at):
        if not isinstance(at, tuple) or len(at) != 2:
            raise BadNumber(at)
        n, m = at
        check_count(n)
        check_count(m)
        if m == 0:
            return self._edge[n]
        index, more = row_place(self._turning, n)
        return self._rows[index][m - 1] + more

    def __iter__(self):
        raise TypeError("a grid has no end; ask for its rows")

    def along(self, m):
        """The row of the prices for all numbers of rounds of the first loop."""
        check_count(m)
        if m == 0:
            return self._edge
        since, period, gain = self._turning.found
        return Row([self[n, m] for n in range(since + period + 1)], period, gain)

    def down(self, n):
        """The row of the prices for all numbers of rounds of the second loop."""
        check_count(n)
        index, more = row_place(self._turning, n)
        row = self._rows[index] + more
        return Row([self._edge[n], *row.first], row.period, row.step)


def check_two_loops(program):
    """Refuse a program that does not have two loops."""
    if program.loop is None:
        raise NoLoop()
    if program.second is None:
        raise OneLoop()


def check_count(n):
    """Refuse what is no number of rounds."""
    if not is_count(n):
        raise BadNumber(n)


def edge_of(task, turning, ends):
    """The row of the least prices without rounds of the second loop."""
    since, period, gain = turning.found
    prices = [
        min([int(cost + end) for cost, end in zip(turning.tables[r], ends)]) for r in range(since + period)
    ]
    return Row([least_price(task), *prices], period, gain)


def followed_row(spins, costs, most):
    """The row of the least prices for 1, 2, .. rounds of the second loop, begun with a table."""
    found = spins.followed(costs, most)
    if found is None:
        raise TooMany(most)
    prices, period, gain = found
    return Row(prices, period, gain)


def row_place(turning, n):
    """The index of the row for a number of rounds of the first loop, and what is to be added to it."""
    if n == 0:
        return 0, 0
    index, more = turning.index_of(n - 1)
    return index + 1, more


def first_turn_of(rows, turn):
    """The turn of rows, of which the one for no rounds stands first, that come round like the tables."""
    since, period, gain = turn
    # Those of one more period are told, so that each one can be held against a later one.
    known = [*rows, *[row + gain for row in rows[since + 1:]]]
    # The tables may take longer to come round than the rows that follow from them.
    counts = [count for count in range(1, period + 1) if comes_again(known, since + 1, period, count)]
    shorter = counts[0]
    more = known[since + 1 + shorter][0] - known[since + 1][0]
    start = since + 1
    while start > 1 and known[start - 1 + shorter] == known[start - 1] + more:
        start -= 1
    return start, shorter, more


def comes_again(rows, start, count, period):
    """Whether so many rows from a start on come again a period later, with the same number added to all of them."""
    gain = rows[start + period][0] - rows[start][0]
    return all([rows[index + period] == rows[index] + gain for index in range(start, start + count)])


def second_turn_of(rows):
    """The turn of all rows but that for no rounds of the first loop."""
    start = max([int(row.start) for row in rows[1:]])
    period = 1
    for row in rows[1:]:
        period = lcm(period, row.period)
    return start + 1, period, rows[1].step * (period // rows[1].period)
