"""Courses: one right plan with the least price for each number of rounds."""

from loopstow.checks import is_count
from loopstow.errors import BadNumber
from loopstow.loops import row
from loopstow.standings import Standing
from loopstow.straight import least_rows, with_forgetting
from loopstow.ways import Ways


class Course:
    """Tells a plan for each number of rounds."""

    def __init__(self, task, most=120):
        self._row = row(task, most)
        # The task's slots can be set otherwise later.
        self._task = task.with_slots(task.slots)
        self._ways = Ways(task)
        self._none = least_rows(task.straight())

    @property
    def row(self):
        """The row of the prices of the plans."""
        return self._row

    def head(self, n):
        """The rows of moves ahead of the deeds ahead."""
        check_rounds(n)
        if n == 0:
            return tuple(self._none[:len(self._task.program.ahead)])
        return self._ways.rows_ahead(n)

    def moves(self, n, r):
        """The rows of moves ahead of the deeds of a round."""
        check_round(n, r)
        return self._ways.walk(n - 1 - r, self._ways.spot_at(n, r))[0]

    def tail(self, n):
        """The rows of moves ahead of the deeds behind, and behind all."""
        check_rounds(n)
        if n == 0:
            return tuple(self._none[len(self._task.program.ahead):])
        return self._ways.rows_behind(n)

    def standing_at(self, n, r):
        """The standing at the head of a round, at which its moves begin, with the needed names only."""
        check_round(n, r)
        return Standing.read(self._ways.rounds.head_ground.texts[self._ways.spot_at(n, r)])

    def spent(self, n, r):
        """The price of the moves ahead of the loop and of the rounds ahead of round r."""
        check_rounds(n)
        if r != n or not is_count(r):
            check_round(n, r)
            return self._row[n] - self._ways.rest_of(n - 1 - r, self._ways.spot_at(n, r))
        return self._row[n] - sum([self._task.price_of(move) for moves in self.tail(n) for move in moves])

    def __call__(self, n):
        straight = self._task.straight(n)
        rows = list(self.head(n))
        if self._task.program.loop:
            for r in range(n):
                rows.extend(self.moves(n, r))
        return with_forgetting(straight, [*rows, *self.tail(n)])


def check_rounds(n):
    """Refuse what is no number of rounds."""
    if not is_count(n):
        raise BadNumber(n)


def check_round(n, r):
    """Refuse what is no number of rounds, and what is none of them."""
    check_rounds(n)
    if not is_count(r) or r >= n:
        raise BadNumber(r)
