"""The prices of loading and storing."""

from loopstow.checks import is_count, is_price
from loopstow.errors import BadNumber, BadPrice


class Prices:
    """A price for storing, one for loading, and own ones for loading some names."""

    MOST = 9

    def __init__(self, load, store, loads=None):
        own = {} if loads is None else dict(loads)
        for price in [load, store, *[own[name] for name in sorted(own, key=str)]]:
            if not is_price(price):
                raise BadPrice(price)
        self._load = load
        self._store = store
        self._loads = own
        # An own price that equals the common one makes no difference between prices.
        self._unlike = {name: own[name] for name in own if own[name] != load}

    @property
    def load(self):
        """The price of loading a name without an own one."""
        return self._load

    @property
    def store(self):
        """The price of storing."""
        return self._store

    @property
    def loads(self):
        """The own load prices, as they were passed."""
        return dict(self._loads)

    def load_of(self, name):
        """The price of loading a name."""
        return self._loads.get(name, self._load)

    def __mul__(self, other):
        if not is_count(other):
            raise BadNumber(other)
        loads = {name: other * self._loads[name] for name in self._loads}
        return Prices(other * self._load, other * self._store, loads)

    def __rmul__(self, other):
        return self * other

    def __eq__(self, other):
        return (
            isinstance(other, Prices) and self._load == other._load
            and self._store == other._store and self._unlike == other._unlike
        )
