"""What rows reckon with: where they repeat themselves, and where they cross.

A *tail* is a list of the numbers of a row from some n on. For two rows the common number of steps `whole` is
the least common multiple of their periods. It may be in the millions, and rows may cross at numbers of many
figures; so periods and crossings are found from one period of each row, as far as that can be.
"""

from math import gcd, lcm

from loopstow.errors import TooMany

# Where no period is known ahead, one of so few steps is looked for first.
FEW = 120


def least_period(tail, step):
    """The least period of a row that has this tail of one period, and this step."""
    whole = len(tail)
    # All periods are multiples of the least one, so it is found by one prime factor after another.
    period = whole
    rest = whole
    factor = 2
    while rest > 1:
        if rest % factor != 0:
            factor += 1
        else:
            rest = rest // factor
            shorter = period // factor
            if repeats(tail, whole - shorter, shorter, step, whole):
                period = shorter
    return period


def least_repeat(tail, count, step, whole, most):
    """The least period up to some most by which the first numbers of a tail, so many of them, repeat, or None.

    The row gains step with each whole, a number of steps that this period divides.
    """
    for period in range(1, min(int(whole), most) + 1):
        if whole % period == 0 and repeats(tail, count, period, step, whole):
            return period
    return None


def stretched(row, count):
    """The first numbers of a row, so many of them."""
    numbers = list(row.first)
    again = numbers[row.start:]
    gain = 0
    while len(numbers) < count:
        gain = gain + row.step
        numbers.extend([number + gain for number in again])
    return numbers[:count]


def repeats(tail, count, period, step, whole):
    """Whether so many numbers come again one period later, each with the same part of the step added."""
    if step * period % whole != 0:
        return False
    gain = step * period // whole
    for index in range(count):
        if tail[index + period] != tail[index] + gain:
            return False
    return True


def least_start(numbers, period, step):
    """The least n from which numbers, whose end repeats, go on by a period and a step."""
    start = len(numbers) - period
    while start > 0 and numbers[start - 1] + step == numbers[start - 1 + period]:
        start = start - 1
    return start


class Meeting:
    """Two rows, from the first n on from which both repeat; steps are counted from there.

    At step k the first row is above the second one by gain * k + levels[k] - other_levels[k], all of it times
    whole; the levels repeat with the periods of their rows.
    """

    def __init__(self, one, other):
        self.since = max(int(one.start), other.start)
        self.whole = lcm(one.period, other.period)
        # The classes of steps in which each level of one row meets each level of the other one.
        self.classes = gcd(one.period, other.period)
        self.slope = one.step * (self.whole // one.period)
        self.gain = self.slope - other.step * (self.whole // other.period)
        self.levels = flat_levels(one, self.since, self.whole)
        self.other_levels = flat_levels(other, self.since, self.whole)

    def most_above(self):
        """How far the first row is above the second one at most, without what the one gains on the other."""
        tops = [top_level(self.levels, at, self.classes) for at in range(self.classes)]
        lows = [low_level(self.other_levels, at, self.classes) for at in range(self.classes)]
        return max([int(top - low) for top, low in zip(tops, lows)])

    def is_above(self, step):
        """Whether the first row is above the second one at a step."""
        level = self.gain * step + self.levels[step % len(self.levels)]
        return level > self.other_levels[step % len(self.other_levels)]

    def first_step(self):
        """The first step at which the first row is above the second one, or None."""
        most = self.most_above()
        first = 0
        count = self.whole
        if self.gain > 0:
            first = max(0, -most // self.gain + 1)
        elif self.gain < 0:
            count = min(int(count), (most - 1) // -self.gain + 1)
        elif most <= 0:
            count = 0
        for step in range(first, first + count):
            if self.is_above(step):
                return step
        return None

    def last_steps(self):
        """How many steps there are at which the first row, which gains less, may be above the other one."""
        return max(0, (self.most_above() - 1) // -self.gain + 1)

    def steps_above(self, count):
        """From which step on the first row is not above the other one at any of the first steps, so many of them."""
        for left in range(count):
            if self.is_above(count - 1 - left):
                return count - left
        return 0

    def lesser_period(self):
        """The least period of the lesser row of two that gain the same."""
        # A level above the greatest one of the other row in its class is never the lesser one. Cut down to it,
        # the levels of both rows can be told from the lesser row, so a period of it is one of theirs.
        tops = [
            min(int(top_level(self.levels, at, self.classes)), top_level(self.other_levels, at, self.classes))
            for at in range(self.classes)
        ]
        return lcm(cut_period(self.levels, tops), cut_period(self.other_levels, tops))


def flat_levels(row, since, whole):
    """The numbers of one period, times whole, without what the row has gained."""
    slope = row.step * (whole // row.period)
    return [row[since + step] * whole - slope * step for step in range(row.period)]


def cut_period(found, tops):
    """The least period of levels that are cut down to the greatest ones of their classes."""
    return least_period([min(int(found[at]), tops[at % len(tops)]) for at in range(len(found))], 0)


def top_level(found, at, classes):
    """The greatest of the levels in a class."""
    return max(found[at::classes], key=int)


def low_level(found, at, classes):
    """The least of the levels in a class."""
    return min(found[at::classes], key=int)


def first_above(one, other):
    """The least n for which one row is above another one, or None."""
    meeting = Meeting(one, other)
    for n in range(meeting.since):
        if one[n] > other[n]:
            return n
    step = meeting.first_step()
    return None if step is None else meeting.since + step


def sum_of(one, other, most):
    """The numbers, a period and the step of the sum of two rows."""
    since = max(int(one.start), other.start)
    whole = lcm(one.period, other.period)
    step = one.step * (whole // one.period) + other.step * (whole // other.period)
    if whole <= most:
        return sums_of(one, other, since + whole), whole, step
    # If the changes of both rows over some steps make up for each other as long as this, they always do.
    count = one.period + other.period
    for reach in (FEW, most):
        sums = sums_of(one, other, since + count + reach)
        period = least_repeat(sums[since:], count, step, whole, reach)
        if period is not None:
            return sums[:since + period], period, step * period // whole
    raise TooMany(most)


def sums_of(one, other, size):
    """The first numbers of the sum of two rows, so many of them."""
    return [number + more for number, more in zip(stretched(one, size), stretched(other, size))]


def quotient_of(row, c, most):
    """The numbers, the period and the step of a row divided by an integer from 1."""
    # From period to period a number takes all rests that differ by multiples of this part of c; so the quotients
    # have those periods of the quotients by this part that gain whole multiples of c.
    part = gcd(row.step, c)
    inner = least_period([number // part for number in row.first[row.start:]], row.step // part)
    whole = row.period * c
    period = lcm(inner, whole // gcd(row.step, whole))
    if period > most:
        raise TooMany(most)
    numbers = [row[n] // c for n in range(row.start + period)]
    return numbers, period, row.step * period // whole


def rests_of(row, c, most):
    """The numbers and a period of the rests of a row by an integer from 1."""
    whole = row.period * (c // gcd(row.step, c))
    if whole <= most:
        return [number % c for number in stretched(row, row.start + whole)], whole
    for reach in (FEW, most):
        rests = [number % c for number in stretched(row, row.start + row.period + reach)]
        period = least_repeat(rests[row.start:], row.period, 0, whole, reach)
        if period is not None:
            return rests[:row.start + period], period
    raise TooMany(most)


def lesser_of(one, other, most):
    """The numbers, the period and the step of the lesser row of two, of which the first gains at most as much."""
    meeting = Meeting(one, other)
    if meeting.gain < 0:
        # The first row is the lesser one at last; if it is not yet here, it comes too late.
        count = meeting.last_steps()
        if meeting.since + count > most:
            if first_above(one >> most, other >> most) is not None:
                raise TooMany(most)
            count = most - meeting.since
        since, period = meeting.since + meeting.steps_above(count), one.period
    else:
        since, period = meeting.since, meeting.lesser_period()
        if period > most:
            raise TooMany(most)
    size = since + period
    numbers = [min(int(number), more) for number, more in zip(stretched(one, size), stretched(other, size))]
    return numbers, period, meeting.slope * period // meeting.whole
