"""Standings: which names lie in slots, and which in the store."""

from loopstow.checks import ascending, check_names, check_unlike
from loopstow.errors import BadStanding, StowError


class Standing:
    """The names in slots and the stored names; it knows no number of slots."""

    def __init__(self, slots=(), stored=()):
        check_names(slots)
        check_names(stored)
        check_unlike(slots)
        check_unlike(stored)
        self._slots = ascending(slots)
        self._stored = ascending(stored)
        self._names = ascending((*slots, *stored))

    @property
    def slots(self):
        """The names in slots, ascending."""
        return self._slots

    @slots.setter
    def slots(self, value):
        # A task is given its slots, so that every property of this name wants a setter.
        raise AttributeError("standings never change")

    @property
    def stored(self):
        """The stored names, ascending."""
        return self._stored

    @property
    def names(self):
        """The names in slots and the stored ones, ascending."""
        return self._names

    @classmethod
    def read(cls, text):
        """The standing with this text."""
        if not isinstance(text, str):
            raise BadStanding(text)
        sides = text.split(" / ")
        if len(sides) != 2:
            raise BadStanding(text)
        try:
            found = cls(names_of_side(sides[0]), names_of_side(sides[1]))
        except StowError:
            raise BadStanding(text) from None
        if str(found) != text:
            raise BadStanding(text)
        return found

    def only(self, names):
        """The standing with only those of its names that are among some names."""
        return Standing(
            [name for name in self.slots if name in names], [name for name in self.stored if name in names],
        )

    def __contains__(self, x):
        return x in self.names

    def __le__(self, other):
        if not isinstance(other, Standing):
            return NotImplemented
        return covers(other.slots, self.slots) and covers(other.stored, self.stored)

    def __ge__(self, other):
        if not isinstance(other, Standing):
            return NotImplemented
        return covers(self.slots, other.slots) and covers(self.stored, other.stored)

    def __or__(self, other):
        return Standing(ascending((*self.slots, *other.slots)), ascending((*self.stored, *other.stored)))

    def __eq__(self, other):
        return isinstance(other, Standing) and self.slots == other.slots and self.stored == other.stored

    def __str__(self):
        return f"{side_text(self.slots)} / {side_text(self.stored)}"


def covers(names, others):
    """Whether all other names are among the names."""
    return all([name in names for name in others])


def side_text(names):
    """The text of one side of a standing."""
    return " ".join(names) or "-"


def names_of_side(text):
    """The names of one side of the text of a standing."""
    return [] if text == "-" else text.split(" ")
