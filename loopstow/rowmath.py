"""What rows reckon with: where they repeat themselves, and where they cross.

A *tail* is a list of the numbers of a row from some n on. For two rows the common number of steps `whole` is
the least common multiple of their periods. It may be in the millions, and rows may cross at numbers of many
figures; so periods and crossings are found from one period of each row, as far as that can be.
"""

from math import gcd, lcm

from loopstow.errors import TooMany


def least_period(tail, step):
    """The least period of a row that has this tail of one period, and this step."""
    whole = len(tail)
    # All periods are multiples of the least one, so it is found by one prime factor after another.
    period = whole
    rest = whole
    factor = 2
    while rest > 1:
        if rest % factor != 0:
            factor += 1
        else:
            rest = rest // factor
            shorter = period // factor
            if repeats(tail, whole - shorter, shorter, step, whole):
                period = shorter
    return period


def least_repeat(tail, count, step, whole, most):
    """The least period by which the first numbers of a tail, so many of them, repeat.

    The row gains step with each whole, a number of steps that this period divides.
    """
    for period in range(1, min(int(whole), most) + 1):
        if whole % period == 0 and repeats(tail, count, period, step, whole):
            return period
    raise TooMany(most)


def repeats(tail, count, period, step, whole):
    """Whether so many numbers come again one period later, each with the same part of the step added."""
    if step * period % whole != 0:
        return False
    gain = step * period // whole
    for index in range(count):
        if tail[index + period] != tail[index] + gain:
            return False
    return True


def least_start(numbers, period, step):
    """The least n from which numbers, whose end repeats, go on by a period and a step."""
    start = len(numbers) - period
    while start > 0 and numbers[start - 1] + step == numbers[start - 1 + period]:
        start = start - 1
    return start


class Meeting:
    """Two rows, from the first n on from which both repeat; steps are counted from there.

    At step k the first row is above the second one by gain * k + levels[k] - other_levels[k], all of it times
    whole; the levels repeat with the periods of their rows.
    """

    def __init__(self, one, other):
        self.since = max(int(one.start), other.start)
        self.whole = lcm(one.period, other.period)
        # The classes of steps in which each level of one row meets each level of the other one.
        self.classes = gcd(one.period, other.period)
        self.slope = one.step * (self.whole // one.period)
        self.gain = self.slope - other.step * (self.whole // other.period)
        self.levels = flat_levels(one, self.since, self.whole)
        self.other_levels = flat_levels(other, self.since, self.whole)

    def first_step(self):
        """The first step at which the first row is above the second one, or None."""
        tops = [top_level(self.levels, at, self.classes) for at in range(self.classes)]
        lows = [low_level(self.other_levels, at, self.classes) for at in range(self.classes)]
        most = max([int(top - low) for top, low in zip(tops, lows)])
        first = 0
        count = self.whole
        if self.gain > 0:
            first = max(0, -most // self.gain + 1)
        elif self.gain < 0:
            count = min(int(count), (most - 1) // -self.gain + 1)
        elif most <= 0:
            count = 0
        for step in range(first, first + count):
            level = self.gain * step + self.levels[step % len(self.levels)]
            if level > self.other_levels[step % len(self.other_levels)]:
                return step
        return None

    def lesser_period(self):
        """The least period of the lesser row of two that gain the same."""
        # A level above the greatest one of the other row in its class is never the lesser one. Cut down to it,
        # the levels of both rows can be told from the lesser row, so a period of it is one of theirs.
        tops = [
            min(int(top_level(self.levels, at, self.classes)), top_level(self.other_levels, at, self.classes))
            for at in range(self.classes)
        ]
        return lcm(cut_period(self.levels, tops), cut_period(self.other_levels, tops))


def flat_levels(row, since, whole):
    """The numbers of one period, times whole, without what the row has gained."""
    slope = row.step * (whole // row.period)
    return [row[since + step] * whole - slope * step for step in range(row.period)]


def cut_period(found, tops):
    """The least period of levels that are cut down to the greatest ones of their classes."""
    return least_period([min(int(found[at]), tops[at % len(tops)]) for at in range(len(found))], 0)


def top_level(found, at, classes):
    """The greatest of the levels in a class."""
    return max(found[at::classes], key=int)


def low_level(found, at, classes):
    """The least of the levels in a class."""
    return min(found[at::classes], key=int)


def first_above(one, other):
    """The least n for which one row is above another one, or None."""
    meeting = Meeting(one, other)
    for n in range(meeting.since):
        if one[n] > other[n]:
            return n
    step = meeting.first_step()
    return None if step is None else meeting.since + step


def sum_of(one, other, most):
    """The numbers, the period and the step of the sum of two rows."""
    since = max(int(one.start), other.start)
    whole = lcm(one.period, other.period)
    step = one.step * (whole // one.period) + other.step * (whole // other.period)
    # If the changes of both rows over some steps make up for each other as long as this, they always do.
    count = one.period + other.period
    sums = [one[n] + other[n] for n in range(since + count + most)]
    period = least_repeat(sums[since:], count, step, whole, most)
    return sums[:since + period], period, step * period // whole


def quotient_of(row, c, most):
    """The numbers, the period and the step of a row divided by an integer from 1."""
    # From period to period a number takes all rests that differ by multiples of this part of c; so the quotients
    # have those periods of the quotients by this part that gain whole multiples of c.
    part = gcd(row.step, c)
    inner = least_period([number // part for number in row.first[row.start:]], row.step // part)
    whole = row.period * c
    period = lcm(inner, whole // gcd(row.step, whole))
    if period > most:
        raise TooMany(most)
    numbers = [row[n] // c for n in range(row.start + period)]
    return numbers, period, row.step * period // whole


def rests_of(row, c, most):
    """The numbers and the period of the rests of a row by an integer from 1."""
    whole = row.period * (c // gcd(row.step, c))
    rests = [row[n] % c for n in range(row.start + row.period + most)]
    period = least_repeat(rests[row.start:], row.period, 0, whole, most)
    return rests[:row.start + period], period


def lesser_of(one, other, most):
    """The numbers, the period and the step of the lesser row of two, of which the first gains at most as much."""
    meeting = Meeting(one, other)
    if meeting.gain < 0:
        # The first row is the lesser one at last; if it is not yet here, it comes too late.
        if first_above(one >> most, other >> most) is not None:
            raise TooMany(most)
        since, period = most, one.period
    else:
        since, period = meeting.since, meeting.lesser_period()
        if period > most:
            raise TooMany(most)
    numbers = [min(int(one[n]), other[n]) for n in range(since + period)]
    return numbers, period, meeting.slope * period // meeting.whole
