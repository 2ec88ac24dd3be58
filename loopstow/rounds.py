"""The rounds of a program with one loop: tables from the beginning, and tables to the end."""

from loopstow.checks import ascending
from loopstow.deeds import Deed
from loopstow.grounds import NEVER, UP, Yard
from loopstow.needed import needed_along, needed_at_end, needed_in_part
from loopstow.reaches import Rest, reach_from, reaches_along, rests_along


class PinnedDeed(Deed):
    """A deed that is done only if pins lie in slots, too, as if it used them."""

    def __init__(self, deed, pins):
        self.uses = (*deed.uses, *[name for name in pins if name not in deed.uses])
        self.makes = deed.makes
        self._names = ascending((*deed.names, *pins))


class Rounds:
    """A task with one loop, in numbers, at the places of its rounds.

    The grounds of a round are those with a further round to come, ahead of each deed and behind all; those of the
    last round go on behind each deed behind the loop. Pins are names that the loop uses and no deed makes; they lie
    in slots whenever a deed of the loop is done.
    """

    def __init__(self, task, pins=()):
        program = task.program
        self.yard = Yard(task)
        self.deeds = tuple([PinnedDeed(deed, pins) for deed in program.loop]) if pins else program.loop
        self.ahead_deeds = program.ahead
        self.last_deeds = (*self.deeds, *program.behind)
        self.ahead_grounds = self.grounds_for(needed_in_part(program, "ahead", True, True, True))
        self.round_grounds = self.grounds_for(
            needed_along(self.deeds, needed_at_end(program, "loop", True, True, True))
        )
        self.head_ground = self.round_grounds[0]
        self.last_grounds = self.grounds_for(needed_along(self.last_deeds, program.results))
        self.begin = self.yard.code(task.start, self.ahead_grounds[0].wanted)

    def grounds_for(self, rows):
        """The grounds where these names are needed."""
        return [self.yard.ground_for(names) for names in rows]

    def opening(self, closed):
        """The reaches at the places of ahead; the last one is that of the head of the first round."""
        ground = self.ahead_grounds[0]
        reach = reach_from(ground, ground.spots[self.begin], closed)
        return [reach, *reaches_along(self.yard, self.ahead_deeds, self.ahead_grounds[1:], reach, closed)]

    def onward(self, reach):
        """The closed reaches at the places of a round with a further one, from that at its head, which is the first."""
        return [reach, *reaches_along(self.yard, self.deeds, self.round_grounds[1:], reach, True)]

    def closing(self):
        """The rests at the places of the last round and behind its deeds; the last one is that of the end."""
        ground = self.last_grounds[-1]
        results = ground.wanted << UP
        rest = Rest(ground, [0 if code & results == results else NEVER for code in ground.codes])
        return [*rests_along(self.yard, self.last_deeds, self.last_grounds[:-1], rest), rest]

    def backward(self, rest):
        """The rests at the places of a round with a further one, from that at its end, which is the last."""
        return [*rests_along(self.yard, self.deeds, self.round_grounds[:-1], rest), rest]


class Turning:
    """Tables that follow from one another, until one comes again with the same added to all of its numbers."""

    def __init__(self, costs):
        self.tables = [costs]
        self.shapes = {shape_of(costs): 0}
        # (s, p, q) as soon as it is known.
        self.found = None

    def note(self, costs):
        """Notes the next table."""
        last = len(self.tables)
        self.tables.append(costs)
        since = self.shapes.setdefault(shape_of(costs), last)
        if since < last:
            self.found = (since, last - since, costs[0] - self.tables[since][0])

    def index_of(self, r):
        """The index of a known table, and what is to be added to it to get table r."""
        since, period, gain = self.found or (len(self.tables), 1, 0)
        if r < since:
            return r, 0
        turns, more = divmod(r - since, period)
        return since + more, turns * gain


def shape_of(costs):
    """What all tables have in common that differ by one number."""
    return tuple([cost - costs[0] for cost in costs])


def turning_of(rounds, most):
    """The tables at the heads of the rounds, until they come again, or to that of so many rounds."""
    reach = rounds.opening(True)[-1]
    turning = Turning(reach.costs)
    while turning.found is None and len(turning.tables) <= most:
        reach = rounds.onward(reach)[-1]
        turning.note(reach.costs)
    return turning
