"""What several tests need."""

from loopstow.deeds import Do, Make, Use
from loopstow.errors import StowError
from loopstow.moves import Load
from loopstow.prices import Prices
from loopstow.programs import Program
from loopstow.rows import Row
from loopstow.standings import Standing


def strange_values():
    """Values of every kind that the document calls any values; none is a name, a text or a fitting number."""
    deep = []
    for _ in range(7):
        deep = [deep]
    return [
        None, True, False, -1, -(10 ** 59), "", " ", "A", "a1", "abcdefg", "a b", "use  a", "\u00e9", "x" * 2000,
        (), ("a",), ("a", "b"), ("loop",), ("loop", 0, 0), [], ["a"], ["loop", 0], [1] * 2999, {}, {"a": 1}, {1: {}},
        deep, Use("a"), Make("a"), Do("a", "b"), Load("a"), Row([0], 1, 1), Prices(1, 1), Standing(["a"]), Program(),
    ]


def strict(value):
    """A value from which two are equal only if their kinds are, too, at every depth."""
    if isinstance(value, (list, tuple)):
        return (value.__class__, [strict(one) for one in value])
    if isinstance(value, dict):
        return (dict, sorted([(repr(strict(key)), strict(value[key])) for key in value], key=lambda pair: pair[0]))
    return (value.__class__, value)


class Helping:
    """Mixed into test cases."""

    def same(self, got, wanted):
        self.assertEqual(strict(got), strict(wanted))

    def refused(self, error, call, *wanted):
        """The call raises just this error, with fields of these values in their order."""
        try:
            got = call()
        except StowError as told:
            self.assertEqual(told.__class__.__name__, error.__name__)
            self.assertIs(told.__class__, error)
            self.same(list(vars(told).values()), list(wanted))
            return
        self.fail(f"{error.__name__} was not raised, but {got!r} returned")
