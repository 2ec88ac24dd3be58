"""What a program asks of its parts and names when it is made.

The parts are a dict from the five words of PARTS to tuples of deeds, or None for a loop that there is not.
"""

from loopstow.checks import ascending, check_names, check_unlike, is_price
from loopstow.errors import BadPart, BadPrice, MadeAgain, TooMany, Unmade

PARTS = ("ahead", "loop", "between", "second", "behind")
LOOPS = ("loop", "second")
MOST_AHEAD = 200
MOST_IN_PART = 24
MOST_NAMES = 6


def check_parts(parts):
    """Refuse parts that cannot stand without a loop that is not there."""
    if parts["loop"] is None:
        if parts["between"]:
            raise BadPart("between")
        if parts["second"] is not None:
            raise BadPart("second")
        if parts["behind"]:
            raise BadPart("behind")
    elif parts["between"] and parts["second"] is None:
        raise BadPart("between")


def check_sizes(parts):
    """Refuse too many deeds in a part, or in the parts outside of loops together."""
    outside = 0
    for part in PARTS:
        size = len(parts[part] or ())
        most = MOST_AHEAD if part == "ahead" else MOST_IN_PART
        if size > most:
            raise TooMany(most)
        if part not in LOOPS:
            outside = outside + size
    if outside > MOST_AHEAD:
        raise TooMany(MOST_AHEAD)


def check_told_names(given, again, results):
    """Refuse what is no name, a name that stands twice, and what is no price."""
    check_names(given)
    check_unlike(given)
    again_names = sorted(again, key=str)
    check_names(again_names)
    for name in again_names:
        if not is_price(again[name]):
            raise BadPrice(again[name])
    check_names(results)
    check_unlike(results)


def all_names(parts, given, again, results):
    """The ascending tuple of all names of a program; they are not too many."""
    names = [*given, *again, *results]
    for part in PARTS:
        for deed in parts[part] or ():
            names.extend(deed.names)
    if len(ascending(names)) > MOST_NAMES:
        raise TooMany(MOST_NAMES)
    return ascending(names)


def check_values(parts, given, again, results):
    """Refuse the first used name or result that may be nowhere, or a deed that makes an again name."""
    lasting = [*given, *again]
    for part in PARTS:
        known = list(lasting)
        for index, deed in enumerate(parts[part] or ()):
            check_deed(deed, (part, index), known, again)
            if deed.makes is not None:
                known.append(deed.makes)
        # A loop may be done no time, so nobody behind it can rely on what it makes.
        if part not in LOOPS:
            lasting = known
    for name in ascending(results):
        if name not in lasting:
            raise Unmade(("behind", len(parts["behind"])), name)


def check_deed(deed, place, known, again):
    """Refuse a deed that uses a name which may be nowhere, or that makes an again name."""
    for name in deed.uses:
        if name not in known:
            raise Unmade(place, name)
    if deed.makes in again:
        raise MadeAgain(place, deed.makes)
