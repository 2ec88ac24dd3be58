"""Moves: what can be done with the names in slots and in the store between deeds."""

from loopstow.checks import is_name
from loopstow.errors import BadMove, BadName


class Move:
    """The base of all moves; it is never made itself."""

    WORD = ""

    def __init__(self, name):
        if not is_name(name):
            raise BadName(name)
        self.word = self.WORD
        self.name = name

    @classmethod
    def read(cls, text):
        """The move with this text."""
        if not isinstance(text, str):
            raise BadMove(text)
        word, *names = text.split(" ")
        if len(names) != 1 or not is_name(names[0]):
            raise BadMove(text)
        if word == Load.WORD:
            return Load(names[0])
        if word == Again.WORD:
            return Again(names[0])
        if word == Store.WORD:
            return Store(names[0])
        if word == Forget.WORD:
            return Forget(names[0])
        raise BadMove(text)

    def __eq__(self, other):
        return isinstance(other, Move) and self.word == other.word and self.name == other.name

    def __str__(self):
        return f"{self.word} {self.name}"


class Bring(Move):
    """The base of the moves that bring a name into a slot; it is never made itself."""


class Load(Bring):
    """Brings a name from the store."""

    WORD = "load"


class Again(Bring):
    """Makes an again name again."""

    WORD = "again"


class Store(Move):
    """Stores a name that lies in a slot."""

    WORD = "store"


class Forget(Move):
    """Makes the slot of a name free."""

    WORD = "forget"
