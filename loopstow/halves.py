"""A task with two loops, in numbers: the tables of its loops, and what is to go from them."""

from loopstow.grounds import NEVER, UP, Yard
from loopstow.needed import needed_in_part
from loopstow.reaches import Reach, Rest, reach_from, reaches_along, rests_along
from loopstow.rounds import Turning, shape_of


class Halves:
    """Leads tables over the parts of a task with two loops."""

    def __init__(self, task):
        self.whole = task.program
        self.yard = Yard(task)
        self.begin = task.start

    def grounds_of(self, part, first, further, second):
        """The grounds at the places of a part, with these rounds to come."""
        return [self.yard.ground_for(names) for names in needed_in_part(self.whole, part, first, further, second)]

    def opening(self, first, second):
        """The reach behind the deeds ahead, with these rounds to come."""
        ground = self.grounds_of("ahead", first, True, second)[0]
        reach = reach_from(ground, ground.spots[self.yard.code(self.begin, ground.wanted)], True)
        return self.reach_over("ahead", reach, first, True, second)

    def reach_over(self, part, reach, first, further, second):
        """The reach behind a part that begins with this one."""
        grounds = self.grounds_of(part, first, further, second)
        found = [reach, *reaches_along(self.yard, self.whole.deeds_of(part), grounds[1:], reach, True)]
        return found[-1]

    def rest_over(self, part, rest, second):
        """The rest ahead of a part that ends with this one, without a further round of its loop."""
        grounds = self.grounds_of(part, True, False, second)
        found = [*rests_along(self.yard, self.whole.deeds_of(part), grounds[:-1], rest), rest]
        return found[0]

    def head_of(self, part, second):
        """The ground at the head of a loop, with this round to come."""
        return self.grounds_of(part, True, True, second)[0]

    def turning_of_first(self, second, most):
        """The tables of the first loop, with rounds of the second one to come or none."""
        reach = self.opening(True, second)
        turning = Turning(reach.costs)
        while turning.found is None and len(turning.tables) <= most:
            reach = self.reach_over("loop", reach, True, True, second)
            turning.note(reach.costs)
        return turning

    def closing(self):
        """The rest ahead of the deeds behind."""
        ground = self.grounds_of("behind", True, True, True)[-1]
        results = ground.wanted << UP
        rest = Rest(ground, [0 if code & results == results else NEVER for code in ground.codes])
        return self.rest_over("behind", rest, True)

    def rest_without(self):
        """The rest at the head of the last round of the first loop, if the second one has no round."""
        return self.rest_over("loop", self.rest_over("between", self.closing(), False), False)

    def head_without(self):
        """The table at the head of the second loop's first round, if the first loop has no round."""
        return self.reach_over("between", self.opening(False, True), True, True, True).costs

    def head_behind(self, costs):
        """The table at the head of the second loop's first round, from one at the head of the first loop's last."""
        reach = reach_at(self.head_of("loop", True), costs)
        reach = self.reach_over("loop", reach, True, False, True)
        return self.reach_over("between", reach, True, True, True).costs


class Spins:
    """The tables of the second loop, each told by what it has in common with those that differ by one number."""

    def __init__(self, halves):
        self.halves = halves
        self.ends = halves.rest_over("second", halves.closing(), True).costs
        self.spots = {}
        self.shapes = []
        # To which table one more round leads from each, and what its first number gains.
        self.nexts = []
        self.leasts = []

    def spot_of(self, costs):
        """The index of the tables that differ by one number from this one."""
        shape = shape_of(costs)
        if shape not in self.spots:
            self.spots[shape] = len(self.shapes)
            self.shapes.append(shape)
            self.nexts.append(None)
            self.leasts.append(min([int(cost + end) for cost, end in zip(shape, self.ends)]))
        return self.spots[shape]

    def next_of(self, spot):
        """The index of the tables one round later, and what the first number gains."""
        if self.nexts[spot] is None:
            reach = reach_at(self.halves.head_of("second", True), list(self.shapes[spot]))
            costs = self.halves.reach_over("second", reach, True, True, True).costs
            self.nexts[spot] = (self.spot_of(costs), costs[0])
        return self.nexts[spot]

    def followed(self, costs, most):
        """The least prices of 1, 2, .. rounds begun with a table, their period and step; None without a turn."""
        spot, more = self.spot_of(costs), costs[0]
        seen = {}
        prices, gains = [], []
        for r in range(most + 1):
            if spot in seen:
                since = seen[spot]
                return prices, r - since, more - gains[since]
            seen[spot] = r
            prices.append(self.leasts[spot] + more)
            gains.append(more)
            spot, gain = self.next_of(spot)
            more = more + gain
        return None


def reach_at(ground, costs):
    """The closed reach with these prices."""
    return Reach(ground, list(costs), [None] * len(costs), True)
