"""Playing programs by rules of thumb, deed by deed."""

from loopstow.checks import ascending
from loopstow.errors import Crowded
from loopstow.moves import Again, Forget, Load, Store
from loopstow.needed import needed_in_part
from loopstow.partchecks import LOOPS, PARTS
from loopstow.sound import BOTH

# How far away a value is that is never used.
NEVER_USED = 1000


class Player:
    """Plays the parts of a program by the words and pins of a rule; how many rounds come is unknown to it."""

    def __init__(self, task, words, pins):
        self.whole = task.program
        self.room_for = task.slots
        self.tariff = task.prices
        self.fixed = task.program.again
        self.order = words
        self.pinned = pins
        self.hopes = {part: wanted_in_part(task.program, part) for part in PARTS}
        self.sights = {}
        # The names in slots, the one that was touched last at the end.
        self.held = []
        self.kept = list(task.program.given)
        self.cost = 0
        self.told = []

    def state(self):
        """What the next moves depend on: the names in slots in the order of their touches, and the stored names."""
        return tuple(self.held), ascending(self.kept)

    def set_back(self, state, cost):
        """Puts the player into a state, for which so much is paid."""
        self.held, self.kept = list(state[0]), list(state[1])
        self.cost = cost

    def play_part(self, part):
        """Plays a part once; returns the rows of moves ahead of its deeds."""
        rows = []
        for at, deed in enumerate(self.whole.deeds_of(part)):
            rows.append(self.play_deed((part, at), deed))
        return rows

    def play_deed(self, place, deed):
        """Plays a deed; returns the moves ahead of it."""
        self.told = []
        for name in deed.uses:
            if name not in self.held:
                self.bring(place, deed.names, name)
        if deed.makes is not None and deed.makes not in self.held:
            self.make_room(place, deed.names)
        for name in deed.uses:
            self.touch(name)
        if deed.makes is not None:
            self.touch(deed.makes)
            self.kept = [name for name in self.kept if name != deed.makes]
        return self.told

    def finish(self):
        """Stores the results behind all deeds; returns the moves."""
        self.told = []
        place = ("behind", len(self.whole.behind))
        for name in self.whole.results:
            if name not in self.kept:
                if name not in self.held:
                    self.bring(place, (), name)
                self.keep(name)
        return self.told

    def bring(self, place, names, name):
        """Brings a name into a slot, which is made free if none is."""
        self.make_room(place, names)
        price = self.tariff.load_of(name)
        if name in self.fixed and (name not in self.kept or self.fixed[name] < price):
            self.told.append(Again(name))
            price = self.fixed[name]
        else:
            self.told.append(Load(name))
        self.cost = self.cost + price
        self.touch(name)

    def keep(self, name):
        """Stores a name that lies in a slot."""
        self.told.append(Store(name))
        self.kept.append(name)
        self.cost = self.cost + self.tariff.store

    def touch(self, name):
        """Puts a name that lies in a slot, or comes into one, behind those that were touched before."""
        self.held = [*[one for one in self.held if one != name], name]

    def make_room(self, place, names):
        """Makes a slot free if none is, for a deed with these names."""
        if len(self.held) < self.room_for:
            return
        best = None
        greatest = ()
        for name in sorted(self.held, key=str):
            if name not in names and name not in self.pinned:
                key = tuple([self.number_for(word, place, name) for word in self.order])
                if key > greatest:
                    best, greatest = name, key
        if best is None:
            raise Crowded(place)
        if self.is_wanted(place, best) and best not in self.kept and best not in self.fixed:
            self.keep(best)
        self.told.append(Forget(best))
        self.held = [name for name in self.held if name != best]

    def number_for(self, word, place, name):
        """The number that a word of the rule gives to a name in a slot."""
        if word == "dead":
            return 0 if self.is_wanted(place, name) else 1
        if word == "far":
            return self.far_of(place, name)
        if word == "old":
            return len(self.held) - 1 - self.held.index(name)
        if word == "clean":
            return 1 if name in self.kept or name in self.fixed or not self.is_wanted(place, name) else 0
        return -self.tariff.load_of(name)

    def is_wanted(self, place, name):
        """Whether a name is needed at a place with some rounds to come."""
        part, at = place
        return name in self.hopes[part][at]

    def far_of(self, place, name):
        """How many deeds later than that of a place the present value of a name is used, as far as can be seen."""
        if place not in self.sights:
            self.sights[place] = deeds_in_sight(self.whole, place)
        for at, deed in enumerate(self.sights[place]):
            if name in deed.uses:
                return at + 1
            if name == deed.makes:
                return NEVER_USED
        return NEVER_USED


def wanted_in_part(program, part):
    """The names that are needed at each place of a part with some rounds to come."""
    if program.deeds_of(part) is None:
        return []
    ways = [
        needed_in_part(program, part, first, further, second)
        for first in BOTH for further in BOTH for second in BOTH
    ]
    return [ascending([name for way in ways for name in way[at]]) for at in range(len(ways[0]))]


def deeds_in_sight(program, place):
    """The deeds behind that of a place, of a loop that goes on for ever only one more round."""
    part, at = place
    rest = program.deeds_of(part)[at + 1:]
    if part in LOOPS:
        return rest + program.deeds_of(part)
    if part == "ahead":
        return rest + (program.loop or ())
    if part == "between":
        return rest + (program.second or ())
    return rest
