"""Searching forwards and backwards: the least prices at the places of a row of deeds, and how they come about."""

from loopstow.grounds import NEVER


class Reach:
    """The least prices at which the standings of a ground are reached at a place.

    If it is closed, a standing that is at least as good counts as reached, too. All prices are taken so many times.
    """

    def __init__(self, ground, costs, came, closed, times=1):
        self.ground = ground
        # From which standing at the place ahead each standing came by the deed, before any move.
        self.came = came
        self.via = swept(ground.arcs, costs, ground.again_here, times)
        # Which standing was reached exactly where one at least as good counts.
        self.tops = list(range(len(costs)))
        self.costs = costs
        if closed:
            for better, spot in ground.drops:
                if costs[better] < costs[spot]:
                    costs[spot] = costs[better]
                    self.tops[spot] = self.tops[better]

    def trail(self, spot):
        """The index at the place ahead, or None, from which a standing is reached, and the texts of the moves."""
        spot = self.tops[spot]
        moves = []
        while self.via[spot] is not None:
            spot, text = self.via[spot]
            moves.append(text)
        return self.came[spot], tuple(moves[::-1])


class Rest:
    """The least prices from the standings of a ground, at a place, to the end."""

    def __init__(self, ground, costs):
        self.ground = ground
        self.via = swept(ground.back_arcs, costs, ground.again_here, 1)
        self.costs = costs

    def trail(self, spot):
        """The texts of the moves that are best at a standing, and the index of the one at which the deed is done."""
        moves = []
        while self.via[spot] is not None:
            spot, text = self.via[spot]
            moves.append(text)
        return tuple(moves), spot


def swept(arcs, costs, again, times):
    """Lowers costs by all arcs; tells for each index from which other one its cost came, and by which move."""
    via = [None] * len(costs)
    changed = True
    while changed:
        changed = False
        for here, there, price, text in arcs:
            cost = costs[here] + price * times
            if cost < costs[there]:
                costs[there] = cost
                via[there] = (here, text)
                changed = again
    return via


def reach_from(ground, spot, closed):
    """The reach at a place at which one standing is reached at no price."""
    costs = [NEVER] * len(ground.codes)
    costs[spot] = 0
    return Reach(ground, costs, [None] * len(costs), closed)


def costs_behind(yard, reach, deed, ground):
    """The least prices right behind a deed, ahead of any move, and the indexes from which it led there."""
    costs = [NEVER] * len(ground.codes)
    came = [None] * len(costs)
    for here, there in enumerate(yard.leads(reach.ground, deed, ground)):
        if there is not None and reach.costs[here] < costs[there]:
            costs[there] = reach.costs[here]
            came[there] = here
    return costs, came


def reach_behind(yard, reach, deed, ground, closed, times=1):
    """The reach behind a deed."""
    costs, came = costs_behind(yard, reach, deed, ground)
    return Reach(ground, costs, came, closed, times)


def reaches_along(yard, deeds, grounds, reach, closed, times=1):
    """The reaches behind the deeds of a row; the grounds are those behind them."""
    found = []
    for deed, ground in zip(deeds, grounds):
        reach = reach_behind(yard, reach, deed, ground, closed, times)
        found.append(reach)
    return found


def rest_ahead(yard, ground, deed, rest):
    """The rest ahead of a deed."""
    costs = [
        NEVER if there is None else rest.costs[there] for there in yard.leads(ground, deed, rest.ground)
    ]
    return Rest(ground, costs)


def rests_along(yard, deeds, grounds, rest):
    """The rests ahead of the deeds of a row, the first one first; the grounds are those ahead of them."""
    found = []
    for deed, ground in reversed(list(zip(deeds, grounds))):
        rest = rest_ahead(yard, ground, deed, rest)
        found.append(rest)
    return found[::-1]
