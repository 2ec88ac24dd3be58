"""Sound standings: which there are where some names are needed."""

from math import comb

from loopstow.errors import TooMany
from loopstow.needed import needed_along, needed_at_end
from loopstow.partchecks import PARTS

BOTH = (True, False)


def subsets(names):
    """All tuples of some of these ascending names, in Python's order."""
    found = [()]
    for name in reversed(list(names)):
        found = [(), *[(name, *rest) for rest in found], *found[1:]]
    return found


def sound_sides(names, again, slots):
    """The pairs (slots, stored) of all sound standings where these names are needed, in Python's order."""
    sides = subsets(names)
    found = []
    for held in sides:
        if len(held) <= slots:
            must = [name for name in names if name not in held and name not in again]
            found.extend([(held, kept) for kept in sides if all([name in kept for name in must])])
    return found


def count_sound(names, again, slots):
    """How many sound standings there are where these names are needed."""
    free = len([name for name in names if name in again])
    bound = len(names) - free
    # A name in a slot is stored or not; one that is nowhere must be an again name.
    return sum([
        comb(bound, some) * comb(free, other) << some + free
        for some in range(slots + 1) for other in range(slots + 1 - some)
    ])


def endings(program, part):
    """The tuples of names that may be needed at the end of a part, each once."""
    found = {}
    for first in BOTH:
        for further in BOTH:
            for second in BOTH:
                found[needed_at_end(program, part, first, further, second)] = True
    return list(found)


def check_sound(program, slots, most):
    """Refuse a program with too many sound standings at some place, with some rounds to come."""
    again = program.again
    for part in PARTS:
        deeds = program.deeds_of(part)
        if deeds is not None:
            for ending in endings(program, part):
                for names in needed_along(deeds, ending):
                    if count_sound(names, again, slots) > most:
                        raise TooMany(most)
