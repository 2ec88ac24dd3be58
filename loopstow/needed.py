"""Needed names: those whose present values matter at a place, with the rounds that are to come."""

from loopstow.checks import ascending
from loopstow.errors import BadPlace


def needed(program, place, *, first=True, further=True, second=True):
    """The ascending tuple of the names that are needed at a place, ahead of its deed."""
    if not program.has_place(place):
        raise BadPlace(place)
    part, index = place
    return needed_in_part(program, part, first, further, second)[index]


def needed_in_part(program, part, first, further, second):
    """The names that are needed at each place of a part, its end included."""
    return needed_along(program.deeds_of(part), needed_at_end(program, part, first, further, second))


def needed_at_end(program, part, first, further, second):
    """The names that are needed at the end of a part."""
    names = program.results
    if part == "behind":
        return names
    names = needed_along(program.behind, names)[0]
    if part == "second":
        return needed_at_head(program.second, further, names)
    names = needed_at_head(program.second, second, names)
    if part == "between":
        return names
    names = needed_along(program.between, names)[0]
    if part == "loop":
        return needed_at_head(program.loop, further, names)
    return needed_at_head(program.loop, first, names)


def needed_at_head(loop, comes, names):
    """The names that are needed where a round of a loop comes or not, if these are needed behind the loop."""
    # One round tells it: the names are the same whether a further round follows it or not.
    if loop is None or not comes:
        return names
    return needed_along(loop, names)[0]


def needed_along(deeds, names):
    """The names that are needed ahead of each deed and behind the last one, where these are."""
    found = [names]
    for deed in reversed(list(deeds)):
        names = ascending((*deed.uses, *[name for name in names if name != deed.makes]))
        found.append(names)
    return found[::-1]
