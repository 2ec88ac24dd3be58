"""Rows: a number for each n from 0, which at last goes on by a period and a step."""

from math import gcd

from loopstow.checks import is_count, is_digits, is_number
from loopstow.errors import BadNumber, BadText, StowError, TooMany
from loopstow.rowmath import (
    first_above, least_period, least_start, lesser_of, quotient_of, rests_of, sum_of,
)


class Row:
    """A row, kept with the least start, then the least period."""

    MOST = 2000

    def __init__(self, numbers, period, step):
        check_told(numbers, period, step)
        least = least_period(list(numbers[len(numbers) - period:]), step)
        gain = step * least // period
        start = least_start(numbers, least, gain)
        if start + least > self.MOST:
            raise TooMany(self.MOST)
        self._first = tuple(numbers[:start + least])
        self._start = start
        self._period = least
        self._step = gain

    @staticmethod
    def even(first, step):
        """The row first, first + step, first + 2 step, .."""
        return Row([first], 1, step)

    @classmethod
    def read(cls, text):
        """The row with this text."""
        if not isinstance(text, str):
            raise BadText(0, 0)
        try:
            found = row_of_words(text.split(" "))
        except StowError:
            raise BadText(0, 0) from None
        if str(found) != text:
            raise BadText(0, 0)
        return found

    @property
    def start(self):
        """N: the row repeats from here on."""
        return self._start

    @property
    def period(self):
        """p: after how many numbers it repeats."""
        return self._period

    @property
    def step(self):
        """q: what a number has gained when it comes again."""
        return self._step

    @property
    def first(self):
        """The first N + p numbers."""
        return self._first

    @property
    def pace(self):
        """The pair (q, p) in lowest terms."""
        shared = gcd(self._step, self._period)
        return self._step // shared, self._period // shared

    def numbers(self, n):
        """The first n numbers."""
        if not is_count(n):
            raise BadNumber(n)
        for index in range(n):
            yield self[index]

    def every(self, j):
        """The row of the numbers for 0, j, 2 j, .."""
        if not is_count(j) or j == 0:
            raise BadNumber(j)
        shared = gcd(self._period, j)
        period = self._period // shared
        # The least multiple of j from which all later ones lie in the part that repeats.
        start = (self._start + j - 1) // j
        return Row([self[j * n] for n in range(start + period)], period, self._step * (j // shared))

    def above(self, other):
        """The least n for which this row is above another one, or None."""
        return first_above(self, other)

    def __getitem__(self, at):
        if not is_count(at):
            raise BadNumber(at)
        if at < len(self._first):
            return self._first[at]
        rounds, place = divmod(at - self._start, self._period)
        return self._first[self._start + place] + rounds * self._step

    def __iter__(self):
        raise TypeError("a row has no end; ask for its first numbers")

    def __add__(self, other):
        if is_number(other):
            return Row([number + other for number in self._first], self._period, self._step)
        if not isinstance(other, Row):
            return NotImplemented
        numbers, period, step = sum_of(self, other, self.MOST)
        return Row(numbers, period, step)

    def __radd__(self, other):
        return self + other

    def __sub__(self, other):
        if not is_number(other) and not isinstance(other, Row):
            return NotImplemented
        return self + -other

    def __rsub__(self, other):
        return -self + other

    def __mul__(self, other):
        if not is_number(other):
            return NotImplemented
        return Row([number * other for number in self._first], self._period, self._step * other)

    def __rmul__(self, other):
        return self * other

    def __neg__(self):
        return self * -1

    def __floordiv__(self, other):
        if not is_count(other) or other == 0:
            raise BadNumber(other)
        numbers, period, step = quotient_of(self, other, self.MOST)
        return Row(numbers, period, step)

    def __mod__(self, other):
        if not is_count(other) or other == 0:
            raise BadNumber(other)
        numbers, period = rests_of(self, other, self.MOST)
        return Row(numbers, period, 0)

    def __rshift__(self, other):
        if not is_count(other):
            raise BadNumber(other)
        start = max(0, self._start - other)
        return Row([self[other + n] for n in range(start + self._period)], self._period, self._step)

    def __and__(self, other):
        if self._step * other._period > other._step * self._period:
            return other & self
        numbers, period, step = lesser_of(self, other, self.MOST)
        return Row(numbers, period, step)

    def __or__(self, other):
        return -(-self & -other)

    def __le__(self, other):
        if not isinstance(other, Row):
            return NotImplemented
        return first_above(self, other) is None

    def __ge__(self, other):
        if not isinstance(other, Row):
            return NotImplemented
        return first_above(other, self) is None

    def __eq__(self, other):
        return (
            isinstance(other, Row) and self._first == other._first
            and self._period == other._period and self._step == other._step
        )

    def __str__(self):
        ahead = [str(number) for number in self._first[:self._start]]
        again = [str(number) for number in self._first[self._start:]]
        return " ".join([*ahead, "|", *again, "+", str(self._step)])


def check_told(numbers, period, step):
    """Refuse what does not tell a row."""
    if not isinstance(numbers, (list, tuple)) or len(numbers) == 0:
        raise BadNumber(numbers)
    if not is_count(period) or not 1 <= period <= len(numbers):
        raise BadNumber(period)
    if not is_number(step):
        raise BadNumber(step)
    for number in numbers:
        if not is_number(number):
            raise BadNumber(number)


def row_of_words(words):
    """The row with the words of a text, which may be told by more numbers than it needs."""
    if len(words) < 4 or "|" not in words or words[-2] != "+":
        raise BadText(0, 0)
    bar = words.index("|")
    numbers = [integer_of(word) for word in words[:bar] + words[bar + 1:-2]]
    return Row(numbers, len(words) - bar - 3, integer_of(words[-1]))


def integer_of(word):
    """The integer that a word tells."""
    if not is_digits(word.removeprefix("-")):
        raise BadText(0, 0)
    return int(word)
