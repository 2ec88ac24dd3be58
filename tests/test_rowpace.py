"""Rows are reckoned in the time that their numbers need, and as plainly as by thousands of numbers."""

import random
import time
import unittest
from math import lcm

from helping import Helping
from loopstow.errors import StowError, TooMany
from loopstow.rows import Row

FAR = 10 ** 59


def small():
    return (
        Row([0, 3, 4, 6, 7], 2, 3), Row([0], 1, 1), Row([1, 5, 3, 4, 2, 6], 6, 1), Row([2, 0, 4, 1, 3, 3, 2], 5, 2),
    )


def listed(row, count):
    """The first numbers of a row, from what its properties tell."""
    numbers = list(row.first)
    while len(numbers) < count:
        numbers.append(numbers[-row.period] + row.step)
    return numbers[:count]


def plain_form(numbers, since, whole, gain):
    """The text of the row that has these numbers, which from since on gain so much with each whole, or None.

    It is None if the row is too long. There are more numbers than since, whole and 2,000 together.
    """
    for period in range(1, min(whole, 2000) + 1):
        if whole % period == 0 and gain * period % whole == 0:
            step = gain * period // whole
            if all(numbers[n + period] == numbers[n] + step for n in range(since, since + whole)):
                break
    else:
        return None
    start = since
    while start > 0 and numbers[start - 1 + period] == numbers[start - 1] + step:
        start -= 1
    if start + period > 2000:
        return None
    words = [*map(str, numbers[:start]), "|", *map(str, numbers[start:start + period]), "+", str(step)]
    return " ".join(words)


def drawn_row(source, periods=12, starts=8):
    most = source.choice((1, 6, 40, FAR))
    size = source.randrange(1, periods + 1)
    numbers = [source.randrange(-most, most + 1) for _ in range(size + source.randrange(starts + 1))]
    return Row(numbers, size, source.randrange(-most, most + 1) if source.random() < 0.3 else source.randrange(-3, 4))


def long_row(source):
    """A row of nearly 2,000 numbers that is the same nearly everywhere."""
    period = source.choice((1, 40, 45, 999, 1000, 1980, 1999, 2000))
    start = source.choice((0, 5, 1990 - period, 2000 - period))
    numbers = [0] * (max(0, min(start, 2000 - period)) + period)
    for _ in range(2):
        numbers[source.randrange(len(numbers))] = source.choice((-1, 1, 5))
    return Row(numbers, period, source.choice((0, 0, period, -period, 1)))


class Time(Helping, unittest.TestCase):
    def quick(self, call):
        """The best of three, since other programs may run beside this one."""
        times = []
        for _ in range(3):
            begun = time.perf_counter()
            for _ in range(2000):
                call()
            times.append(time.perf_counter() - begun)
            if times[-1] < 0.2:
                return
        self.fail(f"{min(times):.3f} seconds for 2,000 calls")

    def test_sums(self):
        a, b, c, d = small()
        for call in (
            lambda: a + b, lambda: a + c, lambda: c + d, lambda: a - a, lambda: c - d, lambda: d - b, lambda: b + 5,
        ):
            self.quick(call)

    def test_lesser_and_greater_rows(self):
        a, b, c, d = small()
        for call in (
            lambda: a & b, lambda: a & c, lambda: c & d, lambda: a | b, lambda: a | c, lambda: c | d, lambda: b & a,
            lambda: d | c, lambda: c & (c + 1), lambda: a & a,
        ):
            self.quick(call)

    def test_rests(self):
        a, b, c, d = small()
        for call in (lambda: a % 3, lambda: c % 5, lambda: d % 7, lambda: b % 12, lambda: a % 1):
            self.quick(call)

    def test_others(self):
        a, _, c, d = small()
        for call in (
            lambda: a // 3, lambda: c // 5, lambda: c.every(4), lambda: a >> 3, lambda: c <= d,
            lambda: Row([0, 3, 4, 6, 7], 2, 3),
        ):
            self.quick(call)


class Plainly(Helping, unittest.TestCase):
    def told(self, call, wanted):
        """The call tells the row with this text, or is refused for None."""
        if wanted is None:
            self.refused(TooMany, call, 2000)
        else:
            self.same(str(call()), wanted)

    def check_sums(self, one, other):
        since, whole = max(one.start, other.start), lcm(one.period, other.period)
        if whole > 10 ** 5:
            return
        size = since + 2 * whole + 2001
        ones, others = listed(one, size), listed(other, size)
        gain, other_gain = one.step * (whole // one.period), other.step * (whole // other.period)
        sums = [number + more for number, more in zip(ones, others)]
        self.told(lambda: one + other, plain_form(sums, since, whole, gain + other_gain))
        rests = [number - more for number, more in zip(ones, others)]
        self.told(lambda: one - other, plain_form(rests, since, whole, gain - other_gain))
        if gain == other_gain:
            for call, take in ((lambda: one & other, min), (lambda: one | other, max)):
                numbers = [take(number, more) for number, more in zip(ones, others)]
                self.told(call, plain_form(numbers, since, whole, gain))

    def check_crossing(self, one, other):
        """Of rows that do not gain the same; the crossing is looked for as far as it can be."""
        whole = lcm(one.period, other.period)
        gain = one.step * (whole // one.period) - other.step * (whole // other.period)
        if gain > 0:
            one, other, gain = other, one, -gain
        if gain == 0:
            return
        apart = max(map(abs, (*one.first, *other.first))) + abs(one.step) + abs(other.step)
        size = max(one.start, other.start, 2000) + (2 * apart // -gain + 3) * whole
        if size > 20000:
            return
        ones, others = listed(one, size), listed(other, size)
        lesser = [min(number, more) for number, more in zip(ones, others)]
        greater = [max(number, more) for number, more in zip(ones, others)]
        crossed = [n for n in range(size) if ones[n] > others[n]]
        since = max(one.start, other.start, *[n + 1 for n in crossed[-1:]])
        wanted, other_wanted = None, None
        if since <= 2000:
            wanted = plain_form(lesser[:since] + listed(one, since + 4001)[since:], since, one.period, one.step)
            other_wanted = plain_form(
                greater[:since] + listed(other, since + 4001)[since:], since, other.period, other.step,
            )
        for first, second in ((one, other), (other, one)):
            self.told(lambda: first & second, wanted)
            self.told(lambda: first | second, other_wanted)

    def check_rests(self, row, c):
        whole = row.period * c
        if whole > 10 ** 5:
            return
        numbers = listed(row, row.start + 2 * whole + 2001)
        self.told(lambda: row % c, plain_form([number % c for number in numbers], row.start, whole, 0))
        self.told(lambda: row // c, plain_form([number // c for number in numbers], row.start, whole, row.step))

    def test_drawn_rows(self):
        source = random.Random(121)
        for _ in range(1200):
            one, other = drawn_row(source), drawn_row(source)
            self.check_sums(one, other)
            self.check_crossing(one, other)
            self.check_rests(one, source.randrange(1, 13))

    def test_rows_that_make_up_for_each_other(self):
        source = random.Random(122)
        for _ in range(300):
            one, other, third = drawn_row(source), drawn_row(source, 7), drawn_row(source, 5)
            try:
                both = one + other
            except StowError:
                continue
            self.check_sums(both, -other)
            self.check_sums(both, third - other)

    def test_long_rows(self):
        source = random.Random(123)
        for _ in range(60):
            one = long_row(source)
            other = long_row(source) if source.random() < 0.5 else drawn_row(source)
            self.check_sums(one, other)
            self.check_crossing(one, other)
            self.check_rests(one, source.choice((1, 2, 3, 40)))

    def test_few_steps_behind_many(self):
        """Rows whose common period is far too long, and whose sum has a short one, or one of just 2,000 numbers."""
        def pulse(period, height=1):
            return Row([height] + [0] * (period - 1), period, 0)

        for period in (1, 7, 119, 120, 121, 300, 1990):
            for more in (31, 60):
                try:
                    both = pulse(period) + pulse(more)
                except StowError:
                    continue
                self.same(both - pulse(more) == pulse(period), True)
        both = pulse(31) + pulse(60)
        self.same((both - pulse(60)).period, 31)
        self.same((pulse(1999) * 4 % 4).period, 1)
        self.same([(pulse(1000) * FAR % FAR).period, str(pulse(1999) * FAR % FAR)], [1, "| 0 + 0"])
        self.same((pulse(1999) * FAR % (3 * FAR)).period, 1999)
        self.refused(TooMany, lambda: (Row.even(0, 1) + pulse(1999)) % 7, 2000)
        self.refused(TooMany, lambda: pulse(1999) + pulse(1998), 2000)

    def test_short_sums_of_long_rows(self):
        """The common period is above 2,000, and that of the sum or of the rests is not."""
        def pulse(period, height=1, at=0):
            return Row([height if n == at else 0 for n in range(period)], period, 0)

        for first, second, third in ((19, 17, 100), (3, 1, 666), (1, 7, 285), (11, 13, 150), (40, 49, 40), (20, 99, 3)):
            for more in (Row.even(0, 0), Row.even(7, -3), Row([9, 5, 1, 2], 1, 3)):
                one, other = pulse(first, 4, 0) + pulse(third, 2), pulse(second, 3) - pulse(third, 2) + more
                self.same([one + other == pulse(first, 4) + pulse(second, 3) + more, (one + other).period],
                          [True, lcm(first, second)])
                self.same(one - -other, pulse(first, 4) + pulse(second, 3) + more)
        for period, c in ((1000, 7), (1999, 2), (300, 40), (150, 119), (97, 121), (13, 1999)):
            row = Row.even(0, 1) + pulse(period) * c
            self.same(row.period, period)
            self.same((row % c).first, tuple(range(c)))
            self.same(((row >> 1) % c).period, c)
            if lcm(period, c) > 2000:
                self.refused(TooMany, lambda: (row + pulse(period)) % c, 2000)
            else:
                self.same(((row + pulse(period)) % c).period, lcm(period, c))

    def test_crossings_with_long_pauses(self):
        """Two pulses meet at n, and again only 1,960 numbers later."""
        for n, height, last in (
            (100, 50, None), (300, 55, 300), (100, 80, 100), (100, 60, 100), (1950, 50, 1950), (1950, 60, 1950), (1959, 50, 1959),
            (1, 0, None), (39, 20, None),
            (30, 55, None), (30, 70, 30), (300, 0, None), (100, 120, -1),
        ):
            one = Row([100 if at == n % 40 else 0 for at in range(40)], 40, 0)
            other = Row([height if at == n % 49 else 150 for at in range(49)], 49, 1)
            crossed = [at for at in range(8000) if one[at] > other[at]]
            if last is None:
                self.assertGreater(crossed[-1] + 1 + 40, 2000)
                for call in (lambda: one & other, lambda: other & one, lambda: -one | -other):
                    self.refused(TooMany, call, 2000)
            else:
                self.same(crossed[-1:], [last] if last >= 0 else [])
                row = one & other
                self.same([row.start, row.period, row == other & one, -row == (-one | -other)],
                          [last + 1, 40, True, True])
                self.same(list(row.numbers(2500)), [min(one[at], other[at]) for at in range(2500)])

    def test_late_crossings(self):
        """The lesser row begins to repeat where the rows have crossed for the last time."""
        for far in (0, 1, 15, 130, 1000, 1997, 1998, 1999, 2000, 2001, 2002, 3000, 10 ** 7, FAR):
            steep, flat = Row.even(0, 1), Row.even(far, 0)
            if far <= 1999:
                self.same([(steep & flat).start, (steep | flat).start], [far, far])
                self.same([(flat & steep)[far + 5], (flat | steep)[far + 5]], [far, far + 5])
            else:
                for call in (lambda: steep & flat, lambda: flat & steep, lambda: steep | flat, lambda: flat | steep):
                    self.refused(TooMany, call, 2000)
        # A pulse that comes seldom keeps the rows from being apart for good.
        seldom = Row([10 ** 6] + [0] * 1899, 1900, 0)
        for height in (1, 1800, 1900):
            row = Row([height] + [0] * 1899, 1900, 0) & Row.even(0, 1)
            self.same([row.start, row.period, row[0], row[1900]], [1, 1900, 0, height])
        self.refused(TooMany, lambda: Row([1901] + [0] * 1899, 1900, 0) & Row.even(0, 1), 2000)
        self.refused(TooMany, lambda: seldom & Row.even(0, 1), 2000)
        self.same((Row([-5] + [0] * 1899, 1900, 0) & Row.even(0, 1)).period, 1900)


if __name__ == "__main__":
    unittest.main()
