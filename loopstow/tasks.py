"""Tasks: programs with a number of slots and prices."""

from loopstow.checks import is_count
from loopstow.errors import BadSlots, Barred, NoRoom
from loopstow.moves import Again, Forget, Load, Move, Store
from loopstow.needed import needed
from loopstow.prices import Prices
from loopstow.sound import check_sound, sound_sides
from loopstow.standings import Standing

MOST_SLOTS = 4
MOST_STANDINGS = 600


class Task:
    """A program with a number of slots, which can be set otherwise, and prices."""

    def __init__(self, program, slots, prices=None):
        check_slots(program, slots)
        self._program = program
        self._slots = slots
        self._prices = Prices(1, 1) if prices is None else prices

    @property
    def program(self):
        """The program."""
        return self._program

    @property
    def prices(self):
        """The prices of loading and storing."""
        return self._prices

    @property
    def start(self):
        """The standing at the beginning."""
        return Standing((), self._program.given)

    @property
    def slots(self):
        """The number of slots."""
        return self._slots

    @slots.setter
    def slots(self, value):
        check_slots(self._program, value)
        self._slots = value

    def set_slots(self, slots):
        """Sets the number of slots."""
        self.slots = slots

    def with_slots(self, slots):
        """Another task with this number of slots."""
        return Task(self._program, slots, self._prices)

    def after(self, standing, thing):
        """The standing behind a move or a deed; names that are not needed stay."""
        if not isinstance(thing, Move):
            return behind_deed(self, standing, thing)
        held, kept, name = standing.slots, standing.stored, thing.name
        if isinstance(thing, (Load, Again)):
            check_bring(self, standing, thing)
            return Standing((*held, name), kept)
        if name not in held:
            raise Barred("lacking", name)
        if isinstance(thing, Forget):
            return Standing([one for one in held if one != name], kept)
        if name in kept:
            raise Barred("kept", name)
        return Standing(held, (*kept, name))

    def price_of(self, move):
        """The price of a move."""
        if isinstance(move, Load):
            return self._prices.load_of(move.name)
        if isinstance(move, Store):
            return self._prices.store
        if isinstance(move, Forget):
            return 0
        again = self._program.again
        if move.name not in again:
            raise Barred("fixed", move.name)
        return again[move.name]

    def standings(self, place, *, first=True, further=True, second=True):
        """The sound standings at a place, ascending by slots and stored names."""
        names = needed(self._program, place, first=first, further=further, second=second)
        for held, kept in sound_sides(names, self._program.again, self._slots):
            yield Standing(held, kept)

    def straight(self, n=0, m=0):
        """The task of the straight program."""
        return Task(self._program.straight(n, m), self._slots, self._prices)

    def __eq__(self, other):
        return (
            isinstance(other, Task) and self._program == other._program and self._slots == other._slots
            and self._prices == other._prices
        )


def check_slots(program, slots):
    """Refuse what is no number of slots, or too few or too many for a program."""
    if not is_count(slots) or not 1 <= slots <= MOST_SLOTS:
        raise BadSlots(slots)
    for part, index in program.places():
        deeds = program.deeds_of(part)
        if index < len(deeds) and deeds[index].room > slots:
            raise NoRoom((part, index))
    check_sound(program, slots, MOST_STANDINGS)


def check_bring(task, standing, move):
    """Refuse a load or an again that cannot be done."""
    again = isinstance(move, Again)
    if again and move.name not in task.program.again:
        raise Barred("fixed", move.name)
    if move.name in standing.slots:
        raise Barred("held", move.name)
    if not again and move.name not in standing.stored:
        raise Barred("unstored", move.name)
    if len(standing.slots) >= task.slots:
        raise Barred("full", move.name)


def behind_deed(task, standing, deed):
    """The standing behind a deed."""
    held, kept, made = standing.slots, standing.stored, deed.makes
    for name in deed.uses:
        if name not in held:
            raise Barred("lacking" if name in kept or name in task.program.again else "lost", name)
    if made is None:
        return standing
    if made not in held:
        if len(held) >= task.slots:
            raise Barred("full", made)
        held = (*held, made)
    return Standing(held, [name for name in kept if name != made])
