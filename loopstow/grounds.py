"""Standings in numbers, for searching.

In a yard each name of a task has a bit. The *code* of a standing has the bits of the names in slots, and those of
the stored names further up. A *ground* has all sound standings where some names are needed, each told by its index
among them, and the moves that lead from one of them to another.
"""

from loopstow.moves import Again, Forget, Load, Store
from loopstow.sound import sound_sides
from loopstow.standings import side_text

UP = 6
HELD = 63
# More than any price.
NEVER = 1000000000


class Yard:
    """What a task tells, in numbers, with a ground for each tuple of needed names."""

    def __init__(self, task):
        self.bits = {name: 1 << at for at, name in enumerate(task.program.names)}
        self.room_for = task.slots
        self.fixed = task.program.again
        self.costs = {}
        for name in self.bits:
            moves = [Load(name), Store(name), Forget(name)]
            if name in self.fixed:
                moves.append(Again(name))
            for move in moves:
                self.costs[str(move)] = (move.word, self.bits[name], task.price_of(move))
        self.grounds = {}
        self.steps = {}

    def mask(self, names):
        """The bits of some names."""
        return sum([self.bits[name] for name in names])

    def code(self, standing, wanted):
        """The code of a standing, of wanted names only."""
        return self.mask(standing.slots) & wanted | (self.mask(standing.stored) & wanted) << UP

    def ground_for(self, names):
        """The ground where these names are needed."""
        if names not in self.grounds:
            self.grounds[names] = Ground(self, names)
        return self.grounds[names]

    def leads(self, here, deed, there):
        """For each standing of a ground the one of another ground behind a deed, or None if it cannot be done."""
        key = (here.wanted, str(deed), there.wanted)
        if key not in self.steps:
            self.steps[key] = [self.spot_behind(code, deed, there) for code in here.codes]
        return self.steps[key]

    def spot_behind(self, code, deed, ground):
        """The index in a ground of the standing behind a deed, or None if it cannot be done."""
        behind = self.behind_deed(code, deed)
        if behind is None:
            return None
        return ground.spots[behind & ground.mask_of_both]

    def behind_deed(self, code, deed):
        """The code behind a deed, or None if it cannot be done."""
        uses = self.mask(deed.uses)
        if code & uses != uses:
            return None
        if deed.makes is None:
            return code
        made = self.bits[deed.makes]
        if not code & made and self.is_full(code):
            return None
        return (code | made) & ~(made << UP)

    def behind_move(self, code, text):
        """The code behind the move with this text, or None if it cannot be done."""
        word, bit, _ = self.costs[text]
        kept = code & bit << UP
        if word == "forget":
            return code ^ bit if code & bit else None
        if word == "store":
            return code | bit << UP if code & bit and not kept else None
        if code & bit or self.is_full(code) or word == "load" and not kept:
            return None
        return code | bit

    def is_full(self, code):
        """Whether no slot is free."""
        return count_bits(code & HELD) >= self.room_for


class Ground:
    """The sound standings where some names are needed, and the moves between them."""

    def __init__(self, yard, names):
        self.wanted = yard.mask(names)
        # What a standing of needed names only may have.
        self.mask_of_both = self.wanted | self.wanted << UP
        sides = sound_sides(names, yard.fixed, yard.room_for)
        self.codes = [yard.mask(held) | yard.mask(kept) << UP for held, kept in sides]
        self.spots = {code: spot for spot, code in enumerate(self.codes)}
        self.texts = [f"{side_text(held)} / {side_text(kept)}" for held, kept in sides]
        self.again_here = len([name for name in names if name in yard.fixed]) > 0
        # In this order one sweep does all stores, then makes slots free, then brings. A name at a time is enough,
        # since what is done with one name changes nothing for the others, but for the slots that are free.
        self.arcs = [
            arc for words in (("store",), ("forget",), ("load", "again")) for name in names
            for arc in arcs_of(yard, self, [f"{word} {name}" for word in words])
        ]
        self.back_arcs = [(there, here, price, text) for here, there, price, text in self.arcs[::-1]]
        self.drops = [drop for name in names for drop in drops_of(self, yard.bits[name] << UP)]


def arcs_of(yard, ground, texts):
    """The moves with these texts within a ground: index, index behind it, price and text; the cheapest for each."""
    known = sorted([text for text in texts if text in yard.costs], key=str)
    found = []
    for spot, code in enumerate(ground.codes):
        best = None
        for text in known:
            behind = yard.behind_move(code, text)
            price = yard.costs[text][2]
            if behind in ground.spots and (best is None or price < best[2]):
                best = (spot, ground.spots[behind], price, text)
        if best is not None:
            found.append(best)
    return found


def drops_of(ground, stored):
    """The pairs of indexes of standings that differ by one stored name, which the first one has."""
    return [
        (spot, ground.spots[code ^ stored]) for spot, code in enumerate(ground.codes)
        if code & stored and code ^ stored in ground.spots
    ]


def count_bits(mask):
    """How many bits a mask has."""
    count = 0
    while mask:
        mask = mask & (mask - 1)
        count += 1
    return count
