"""Deeds: what a program does, each of them using or making names or both."""

from loopstow.checks import ascending, check_names, check_unlike
from loopstow.errors import BadDeed, StowError, TooMany


class Deed:
    """The base of all deeds; it is never made itself."""

    MOST = 3

    @property
    def names(self):
        """All its names, ascending."""
        return self._names

    @property
    def room(self):
        """The least number of slots with which the deed can be done."""
        # No used name gives its slot to the made one, so each name takes one.
        return len(self.names)

    @classmethod
    def read(cls, text):
        """The deed with this text."""
        if not isinstance(text, str):
            raise BadDeed(text)
        word, *names = text.split(" ")
        try:
            return deed_of(word, names)
        except StowError:
            raise BadDeed(text) from None

    def __eq__(self, other):
        # Which class a deed has follows from what it uses and makes.
        return isinstance(other, Deed) and self.uses == other.uses and self.makes == other.makes

    def __str__(self):
        if self.makes is None:
            words = ["use", *self.uses]
        elif self.uses:
            words = ["do", self.makes, *self.uses]
        else:
            words = ["make", self.makes]
        return " ".join(words)


class Use(Deed):
    """A deed that uses names."""

    def __init__(self, *names):
        check_names(names)
        check_used(names)
        self.uses = names
        self.makes = None
        self._names = ascending(names)


class Make(Deed):
    """A deed that makes a name."""

    def __init__(self, name):
        check_names((name,))
        self.uses = ()
        self.makes = name
        self._names = (name,)


class Do(Use, Make):
    """A deed that uses names and makes one at the same time."""

    def __init__(self, name, *names):
        check_names((name, *names))
        check_used(names)
        self.uses = names
        self.makes = name
        self._names = ascending((name, *names))


def check_used(names):
    """Refuse used names that stand twice, are too many, or are none."""
    check_unlike(names)
    if len(names) > Deed.MOST:
        raise TooMany(Deed.MOST)
    if not names:
        raise BadDeed(None)


def deed_of(word, names):
    """The deed with this first word and the names behind it."""
    if word == "use":
        return Use(*names)
    if word == "make" and len(names) == 1:
        return Make(names[0])
    if word == "do" and names:
        return Do(*names)
    raise BadDeed(word)


def renamed_deed(deed, renames):
    """The same deed with other names, told by a dict that has each of its names."""
    uses = [renames[name] for name in deed.uses]
    if deed.makes is None:
        return Use(*uses)
    made = renames[deed.makes]
    if not uses:
        return Make(made)
    return Do(made, *uses)
