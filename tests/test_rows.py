"""Rows."""

import random
import unittest
from math import lcm

from helping import Helping, strange_values
from loopstow.errors import BadNumber, BadText, TooMany
from loopstow.rows import Row

FAR = 10 ** 30


def pulse(period, at=0, height=1):
    """A row that is 0, and the height once in a period."""
    return Row([height if index == at else 0 for index in range(period)], period, 0)


def small_row(source):
    size = source.randrange(1, 7)
    return Row([source.randrange(-6, 7) for _ in range(size)], source.randrange(1, size + 1), source.randrange(-4, 5))


def plain_form(number, start, period, step):
    """Start, period and step of a row of which some are known, found by trying all."""
    for least in range(1, period + 1):
        if period % least == 0 and step * least % period == 0:
            gain = step * least // period
            if all(number(n + least) == number(n) + gain for n in range(start, start + period)):
                break
    while start > 0 and number(start - 1) + gain == number(start - 1 + least):
        start -= 1
    return start, least, gain


class Made(Helping, unittest.TestCase):
    def test_document(self):
        row = Row([0, 3, 4, 6, 7], 2, 3)
        self.same(
            [str(row), row.start, row.period, row[10 ** 20], row.pace, str(row.every(2)), str(row // 2), str(row % 3)],
            ["0 | 3 4 + 3", 1, 2, 150000000000000000001, (3, 2), "0 | 4 + 3", "| 0 1 2 3 + 3", "0 | 0 1 + 0"],
        )
        self.same(
            [str(row - Row.even(0, 1)), row <= Row.even(1, 2), Row.even(0, 2).above(row), str(row & Row.even(5, 1))],
            ["0 | 2 2 + 1", True, 4, "0 3 4 6 7 9 10 | 12 + 1"],
        )

    def test_least_form(self):
        for numbers, period, step, text in (
            ([7], 1, -2, "| 7 + -2"), ((1, 2, 3, 4), 2, 2, "| 1 + 1"), ([5, 5, 5, 5, 5], 3, 0, "| 5 + 0"),
            ([9, 0, 1, 0, 1], 4, 0, "9 | 0 1 + 0"), ([0, 1, 0, 1], 4, 1, "| 0 1 0 1 + 1"), ([0, 0], 2, 1, "| 0 0 + 1"),
            ([1, 5, 2, 6, 3, 7], 4, 2, "| 1 5 + 1"), ([1, 2, 3, 7, 8, 9, 13], 6, 12, "| 1 2 3 + 6"),
            ([0, 0, 0, 1], 1, 1, "0 0 | 0 + 1"), ([4, 2, 0], 1, -2, "| 4 + -2"),
        ):
            row = Row(numbers, period, step)
            self.same(str(row), text)
            words = text.split(" ")
            bar = words.index("|")
            first = tuple(int(word) for word in words[:bar] + words[bar + 1:-2])
            self.same([row.start, row.period, row.step, row.first], [bar, len(first) - bar, int(words[-1]), first])
            self.assertEqual(Row.read(text), row)

    def test_the_program_tells_the_class(self):
        self.same(Row.MOST, 2000)
        self.assertIsInstance(vars(Row)["even"], staticmethod)
        self.assertIsInstance(vars(Row)["read"], classmethod)
        for name in ("start", "period", "step", "first", "pace"):
            self.assertIsInstance(vars(Row)[name], property)
        for name in "getitem add radd sub rsub mul rmul neg floordiv mod rshift and or le ge eq str".split():
            self.assertIn(f"__{name}__", vars(Row))

    def test_pace(self):
        for row, pace in (
            (Row([1, 2, 3, 0], 4, 6), (3, 2)), (Row([1, 2, 0], 3, -6), (-2, 1)), (Row([1, 2, 0], 3, 0), (0, 1)),
            (Row.even(5, 0), (0, 1)), (Row([3, 9, 1, 0], 4, -6), (-3, 2)),
        ):
            self.same(row.pace, pace)

    def test_even(self):
        self.same(str(Row.even(3, -2)), "| 3 + -2")
        self.same(str(Row.even(step=2, first=FAR)), f"| {FAR} + 2")
        for value in strange_values():
            if not isinstance(value, int) or isinstance(value, bool):
                self.refused(BadNumber, lambda: Row.even(value, 1), value)
                self.refused(BadNumber, lambda: Row.even("x", value), value)

    def test_refused(self):
        for value in [*strange_values(), 0, 5, "1 2"]:
            if not isinstance(value, (list, tuple)) or not value:
                self.refused(BadNumber, lambda: Row(value, 0, None), value)
            if value.__class__ is not int or not 1 <= value <= 2:
                self.refused(BadNumber, lambda: Row([1, None], value, None), value)
            if value.__class__ is not int:
                self.refused(BadNumber, lambda: Row([1, None], 2, value), value)
                self.refused(BadNumber, lambda: Row([1, value, None] * 900, 2700, 0), value)
        self.refused(BadNumber, lambda: Row([1, 2], 3, 0), 3)

    def test_most(self):
        self.same(pulse(2000).period, 2000)
        self.refused(TooMany, lambda: pulse(2001), 2000)
        row = Row([5] * 1999 + [6], 1, 0)
        self.same([row.start, row.period], [1999, 1])
        self.refused(TooMany, lambda: Row([5] * 2000 + [6], 1, 0), 2000)
        self.same(str(Row([4] * 9000, 7000, 0)), "| 4 + 0")
        self.same(Row([0, 1] * 3000, 6000, 0).period, 2)
        self.same(Row(([1] + [0] * 1999) * 3, 6000, 0).first, pulse(2000).first)
        self.refused(TooMany, lambda: Row(([1] + [0] * 2000) * 3, 6003, 0), 2000)
        many = Row([3] + ([1] + [0] * 1998) * 3, 5997, 0)
        self.same([many.start, many.period], [1, 1999])
        self.refused(TooMany, lambda: Row([3, 3] + ([1] + [0] * 1998) * 3, 5997, 0), 2000)
        self.same(Row(list(range(50000)), 30000, 30000), Row.even(0, 1))

    def test_later_changes(self):
        numbers = [1, 2]
        row = Row(numbers, 1, 0)
        numbers[0] = 9
        self.same([row[0], str(row)], [1, "1 | 2 + 0"])


class Read(Helping, unittest.TestCase):
    def test_index(self):
        row = Row([5, 0, 3], 2, -7)
        self.same([row[n] for n in range(7)], [5, 0, 3, -7, -4, -14, -11])
        self.same([row[2 * FAR + 1], row[2 * FAR + 2]], [-7 * FAR, 3 - 7 * FAR])
        for value in strange_values():
            self.refused(BadNumber, lambda: row[value], value)
        with self.assertRaises(TypeError):
            list(row)

    def test_numbers(self):
        row = Row([5, 0, 3], 2, -7)
        self.same([list(row.numbers(0)), list(row.numbers(1)), list(row.numbers(6))], [[], [5], [5, 0, 3, -7, -4, -14]])
        far = row.numbers(FAR)
        self.same([next(far), next(far)], [5, 0])
        for value in strange_values():
            waiting = row.numbers(value)
            self.refused(BadNumber, lambda: next(waiting), value)

    def test_text(self):
        for text in ("| 0 + 0", "0 | 3 4 + 3", "-5 7 | 3 + -2", f"| {FAR} + -{FAR}", f"{-FAR} | 0 1 + 5"):
            self.same(str(Row.read(text)), text)
        for text in [
            *strange_values(), "|", "+", "| +", "| + 3", "| 1 + ", "| 1 +", "1 + 3", "|1 + 3", "| 1 + 3 ", " | 1 + 3",
            "| 1 | 2 + 3", "| 01 + 3", "| -0 + 0", "| 1 + +3", "| 1 + 03", "| 1_0 + 3", "| 1 1 + 0", "| 1 2 + 2",
            "1 | 1 + 0", "| 1 + 3 4", "| 1  2 + 3", "| 1\n2 + 3", "| a + 3", "| 1 + b", "| \u0663 + 0", "3 | + 0",
            "| 1 + 3\n", "1 2 + |", "0 | 3 4 6 7 + 6", "| " + "1 0 " * 2400 + "+ 0", "| --1 + 0", "| 1.0 + 0", "+ | 1 + 0",
            "0 " * 4900 + "1 | 2 + 0", "| " + "9" * 60 + " x + 0", "| 1 - 3", "| 1 + 3 | + 3", "| - + 3", "| 1 + -",
        ]:
            self.refused(BadText, lambda: Row.read(text), 0, 0)
        self.same(str(Row.read("1 0 " * 900 + "5 | 1 0 + 0")), "1 0 " * 900 + "5 | 1 0 + 0")
        self.refused(BadText, lambda: Row.read("1 0 " * 1200 + "5 | 1 0 + 0"), 0, 0)

    def test_equal(self):
        self.same(Row([1, 2], 1, 1) == Row.even(1, 1), True)
        rows = [Row.even(0, 0), Row.even(0, 1), Row.even(1, 0), Row([0, 0], 1, 1), Row([0, 1], 2, 1), Row([1, 0], 1, 0)]
        rows += [Row([0, 1], 1, 0), Row([0, 1], 2, 0)]
        for index, one in enumerate(rows):
            for other_index, other in enumerate(rows):
                self.same([one == other, one != other], [index == other_index, index != other_index])
            for value in (None, 0, one.first, str(one)):
                self.same(one == value, False)


class Reckoned(Helping, unittest.TestCase):
    def check(self, row, number, start, period, step):
        """The row has these numbers, which are known to repeat, and its least form."""
        self.same((row.start, row.period, row.step), plain_form(number, start, period, step))
        self.same(list(row.numbers(start + 2 * period)), [number(n) for n in range(start + 2 * period)])

    def test_small_rows(self):
        source = random.Random(3)
        for _ in range(300):
            one, other = small_row(source), small_row(source)
            start, whole = max(one.start, other.start), lcm(one.period, other.period)
            gain, other_gain = one.step * whole // one.period, other.step * whole // other.period
            c, j = source.randrange(1, 13), source.randrange(12)
            self.check(one + other, lambda n: one[n] + other[n], start, whole, gain + other_gain)
            self.check(one - other, lambda n: one[n] - other[n], start, whole, gain - other_gain)
            self.check(-one, lambda n: -one[n], one.start, one.period, -one.step)
            for k in (c, -c, 0):
                self.check(k * one, lambda n: k * one[n], one.start, one.period, k * one.step)
                self.check(one * k, lambda n: k * one[n], one.start, one.period, k * one.step)
                self.check(one + k, lambda n: one[n] + k, one.start, one.period, one.step)
                self.check(k + one, lambda n: one[n] + k, one.start, one.period, one.step)
                self.check(one - k, lambda n: one[n] - k, one.start, one.period, one.step)
                self.check(k - one, lambda n: k - one[n], one.start, one.period, -one.step)
            self.check(one // c, lambda n: one[n] // c, one.start, one.period * c, one.step)
            self.check(one % c, lambda n: one[n] % c, one.start, one.period * c, 0)
            self.check(one >> j, lambda n: one[n + j], one.start, one.period, one.step)
            self.check(one.every(j + 1), lambda n: one[n * (j + 1)], one.start, one.period, one.step * (j + 1))

    def test_crossing_small_rows(self):
        source = random.Random(4)
        for _ in range(300):
            one, other = small_row(source), small_row(source)
            start, whole = max(one.start, other.start), lcm(one.period, other.period)
            gain, other_gain = one.step * whole // one.period, other.step * whole // other.period
            far = start + 40 * whole
            above = [n for n in range(far) if one[n] > other[n]]
            below = [n for n in range(far) if one[n] < other[n]]
            self.same([one.above(other), other.above(one)], [min(above, default=None), min(below, default=None)])
            self.same([one <= other, one >= other], [not above, not below])
            lesser, greater = (one, other) if gain < other_gain else (other, one)
            for row, last, take in ((one & other, lesser, min), (one | other, greater, max)):
                if gain == other_gain:
                    self.check(row, lambda n: take(one[n], other[n]), start, whole, gain)
                else:
                    self.check(row, lambda n: take(one[n], other[n]), far, last.period, last.step)

    def test_order_of_equal_rows(self):
        row = Row([3, 1, 4], 2, 5)
        self.same([row <= row, row >= row, row.above(row), row & row == row, row | row == row], [True, True, None, True, True])
        self.same([row - 1 <= row, row - 1 >= row, row.above(row - 1)], [True, False, 0])

    def test_other_kinds(self):
        row = Row.even(0, 1)
        for value in (None, "1", True, [1]):
            for call in (
                lambda: row + value, lambda: value + row, lambda: row - value, lambda: value - row,
                lambda: row * value, lambda: value * row, lambda: row <= value, lambda: row >= value,
            ):
                with self.assertRaises(TypeError):
                    call()

    def test_refused_numbers(self):
        row = Row([0, 3, 4], 2, 3)
        for value in strange_values():
            self.refused(BadNumber, lambda: row // value, value)
            self.refused(BadNumber, lambda: row % value, value)
            self.refused(BadNumber, lambda: row >> value, value)
            self.refused(BadNumber, lambda: row.every(value), value)
        for call in (lambda: row // 0, lambda: row % 0, lambda: row.every(0)):
            self.refused(BadNumber, call, 0)

    def test_many_figures(self):
        row = Row([0, 3, 4, 6, 7], 2, 3)
        self.same(str(row >> 2 * FAR), f"| {3 * FAR + 1} {3 * FAR + 3} + 3")
        self.same(str(row.every(2 * FAR)), f"0 | {3 * FAR + 1} + {3 * FAR}")
        self.same(str(row * FAR), f"0 | {3 * FAR} {4 * FAR} + {3 * FAR}")
        self.same(str(Row.even(FAR, 0) // FAR), "| 1 + 0")
        self.same(str(Row.even(-1, 0) // FAR), "| -1 + 0")
        self.same(str(Row.even(3, FAR) // FAR), "| 0 + 1")
        self.same(str(Row.even(3, FAR) % FAR), "| 3 + 0")
        self.same(str(Row.even(3, 2 * FAR) % (4 * FAR)), f"| 3 {2 * FAR + 3} + 0")
        self.refused(TooMany, lambda: row // FAR, 2000)
        self.refused(TooMany, lambda: row % FAR, 2000)

    def test_most_of_sums(self):
        self.same((pulse(40) + pulse(50)).period, 200)
        self.same((pulse(1000) + pulse(16)).period, 2000)
        self.refused(TooMany, lambda: pulse(29) + pulse(69), 2000)
        self.refused(TooMany, lambda: pulse(1999) - pulse(1997), 2000)
        self.refused(TooMany, lambda: pulse(1000) + Row([7] * 1000 + [8], 1, 0) + pulse(16), 2000)
        # The parts that do not go together make up for each other.
        one, other = pulse(3) + pulse(500), pulse(3, height=-1) + pulse(4)
        self.same([one.period, other.period, (one + other).period], [1500, 12, 500])
        one, other = pulse(31) + pulse(60), pulse(60, height=-1)
        self.same([one.period, (one + other).period], [1860, 31])
        self.same((pulse(1999) - pulse(1999)).first, (0,))
        start = Row([9] * 1000 + [8], 1, 0)
        self.same([(start + pulse(1000)).start, (start + pulse(1000)).period], [1000, 1000])
        self.refused(TooMany, lambda: start + pulse(1001), 2000)

    def test_most_of_quotients_and_rests(self):
        self.same((Row.even(0, 1) // 2000).period, 2000)
        self.refused(TooMany, lambda: Row.even(0, 1) // 2001, 2000)
        self.refused(TooMany, lambda: Row([9999, 0], 1, 1) // 2000, 2000)
        self.same((Row.even(0, 1) % 2000).period, 2000)
        self.refused(TooMany, lambda: Row.even(0, 1) % 2001, 2000)
        self.refused(TooMany, lambda: Row([1, 1, 2], 1, 1) % 2000, 2000)
        # The period told by the row and the divisor is too long; the least one is not.
        wide = pulse(1999)
        self.same([str(wide // 2), str((wide * 4 + 1) % 4)], ["| 0 + 0", "| 1 + 0"])
        steep = pulse(1500) * 5 + Row.even(0, 5)
        self.same([str(steep % 5), (steep // 5).period], ["| 0 + 0", 1500])
        uneven = Row([2 * n + (n % 700 == 0) for n in range(700)], 700, 1400)
        self.same([uneven.period, str(uneven // 2)], [700, "| 0 + 1"])
        self.same((uneven // 4).first, (0, 0))

    def test_most_of_lesser_and_greater_rows(self):
        self.refused(TooMany, lambda: pulse(1999) | pulse(1997), 2000)
        self.refused(TooMany, lambda: pulse(29) | pulse(69), 2000)
        self.same([(pulse(40) | pulse(50)).period, (pulse(1000) | pulse(16)).period], [200, 2000])
        # The pulse of one row lies above all numbers of the other one.
        self.same([(pulse(1999) & pulse(1997) * 0).period, str(pulse(1999) & (pulse(1997) - 1))[:9]], [1, "| 0 -1 -1"])
        high = pulse(1999) + 5
        self.same([(high & pulse(1997)).period, (high | pulse(1997)).period], [1997, 1999])
        mixed = pulse(1997) - pulse(1997) + pulse(4, height=-1) + pulse(7, height=9)
        self.same((mixed & pulse(50, height=3)).period, 700)
        steep = Row.even(-3998, 2)
        self.same([(steep & Row.even(0, 0)).start, (steep | Row.even(0, 0)).start], [1999, 1999])
        self.refused(TooMany, lambda: Row.even(-4001, 2) & Row.even(0, 0), 2000)
        self.refused(TooMany, lambda: Row.even(-4001, 2) | Row.even(0, 0), 2000)
        self.refused(TooMany, lambda: Row.even(-FAR, 2) & Row.even(0, 0), 2000)
        self.same(Row.even(-FAR, -2) & Row.even(0, 0), Row.even(-FAR, -2))

    def test_crossing_far_out(self):
        slow, fast = Row.even(FAR, 1), Row.even(0, 2)
        self.same([fast.above(slow), slow.above(fast), fast >= slow, slow <= fast], [FAR + 1, 0, False, False])
        slow = Row([FAR, FAR + 5, FAR + 3], 3, 10 ** 6)
        fast = Row([0, -7], 2, (10 ** 6 + 1) * 2 // 3 + 1)
        n = fast.above(slow)
        self.same([fast[n] > slow[n], n > 10 ** 20], [True, True])
        self.assertTrue(all(fast[n - k] <= slow[n - k] for k in range(1, 200)))
        self.assertTrue(all(fast[k * n // 1000] <= slow[k * n // 1000] for k in range(1000)))
        self.same([slow <= slow + FAR, slow + 1 <= slow, (slow + FAR).above(slow)], [True, False, 0])
        # Rows that gain the same, and meet only where two pulses fall together.
        one, other = pulse(1999, 1500), 1 - pulse(1997, 1996)
        self.same([one.above(other), one <= other, other <= one], [497252, False, False])
        self.same([one[497252], other[497252], one.above(other + 1)], [1, 0, None])
        up, down = one + Row.even(-FAR, 3), other + Row.even(-FAR, 3)
        self.same([up.above(down), up.above(down + 1)], [497252, None])
        self.same(Row.even(-5, -1).above(Row.even(-FAR, 1)), 0)
        self.same(pulse(1999, 1998, 3000).above(Row.even(0, 1)), 1998)
        self.same(pulse(1999, 1998, 1000).above(Row.even(0, 1)), None)


if __name__ == "__main__":
    unittest.main()
