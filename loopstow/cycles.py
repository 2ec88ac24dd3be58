"""The pace: the least price per round of a row of rounds that begins and ends with the same standing.

A row of rounds that comes back has a price per round. With this price taken off each round, standings are reached
at ever lower prices if there is a cheaper row of rounds that comes back; then one is found in how they are reached.
Otherwise the prices come to rest, and show that there is none.
"""

from math import gcd

from loopstow.grounds import NEVER
from loopstow.reaches import Reach, costs_behind, reach_from, reaches_along


class Ring:
    """Rounds that lead from a standing back to it, or to one at least as good: pairs of its index and rows of moves."""

    def __init__(self, rounds, spots):
        self.legs = []
        price = 0
        for at, spot in enumerate(spots):
            more, rows = leg_between(rounds, spot, spots[(at + 1) % len(spots)])
            price = price + more
            self.legs.append((spot, rows))
        shared = gcd(price, len(spots))
        # What a round gains, and for how many rounds: the pace, in lowest terms.
        self.gain = price // shared
        self.per = len(spots) // shared


def least_ring(rounds):
    """A ring with the least price per round, and the numbers ahead of each deed that show that none has less."""
    if not rounds.deeds:
        return Ring(rounds, (0,)), [[0] * len(rounds.head_ground.codes)]
    known, _ = lapped(rounds, [0] * len(rounds.head_ground.codes), 1)
    levels = {spot: 0 for spot, cost in enumerate(known) if cost < NEVER}
    _, bases = lapped(rounds, spread_levels(rounds, levels), 1)
    ring = Ring(rounds, spots_around({spot: bases[spot] for spot in levels}))
    while True:
        spots, numbers = rested(rounds, levels, ring)
        if spots is None:
            return ring, numbers
        ring = Ring(rounds, spots)


def rested(rounds, levels, ring):
    """The indexes of a ring that has less per round than this one, and None; or None and the numbers that came to rest.

    The levels are the numbers of the standings to which a round can lead, right behind its last deed.
    """
    levels = dict(levels)
    origins = {}
    changed = True
    while changed:
        changed = False
        costs, bases = lapped(rounds, spread_levels(rounds, levels), ring.per)
        for spot in list(levels):
            cost = costs[spot] - ring.gain
            if cost < levels[spot]:
                levels[spot] = cost
                origins[spot] = bases[spot]
                changed = True
        spots = spots_around(origins)
        if spots is not None:
            return spots, None
    reaches = reaches_of_round(rounds, spread_levels(rounds, levels), ring.per)
    return None, [list(reach.costs) for reach in reaches]


def spread_levels(rounds, levels):
    """The numbers of all standings at the head of a round, of which only some have one."""
    return [levels.get(spot, NEVER) for spot in range(len(rounds.head_ground.codes))]


def reaches_of_round(rounds, costs, times):
    """The closed reaches ahead of the deeds of a round with a further one, with all prices taken so many times."""
    reach = Reach(rounds.head_ground, list(costs), list(range(len(costs))), True, times)
    return [reach, *reaches_along(rounds.yard, rounds.deeds[:-1], rounds.round_grounds[1:-1], reach, True, times)]


def lapped(rounds, costs, times):
    """The prices right behind the last deed of a round, and from which standing at its head they came."""
    reaches = reaches_of_round(rounds, costs, times)
    ends, came = costs_behind(rounds.yard, reaches[-1], rounds.deeds[-1], rounds.head_ground)
    bases = came
    for reach in reversed(list(reaches)):
        steps = [reach.trail(spot)[0] for spot in range(len(reach.costs))]
        bases = [None if spot is None else steps[spot] for spot in bases]
    return ends, bases


def spots_around(origins):
    """Keys of a dict of which each is the origin of the next one, and the last one that of the first; or None."""
    walked = {}
    for begin in origins:
        spot = begin
        path = []
        while spot in origins and spot not in walked:
            walked[spot] = begin
            path.append(spot)
            spot = origins[spot]
        if spot in path:
            return path[path.index(spot):][::-1]
    return None


def leg_between(rounds, here, there):
    """The least price of a round from a standing to one at least as good as another, and its rows of texts of moves."""
    ground = rounds.head_ground
    if not rounds.deeds:
        return 0, ()
    reach = reach_from(ground, here, False)
    reaches = [reach, *reaches_along(rounds.yard, rounds.deeds[:-1], rounds.round_grounds[1:-1], reach, False)]
    costs, came = costs_behind(rounds.yard, reaches[-1], rounds.deeds[-1], ground)
    aim = ground.codes[there]
    least = NEVER
    spot = None
    for end, code in enumerate(ground.codes):
        if code & aim == aim and costs[end] < least:
            least = costs[end]
            spot = came[end]
    rows = []
    for reach in reversed(list(reaches)):
        spot, moves = reach.trail(spot)
        rows.append(moves)
    return least, tuple(rows[::-1])
