"""Straight programs: the least price of a right plan, and such a plan."""

from loopstow.grounds import Yard
from loopstow.moves import Forget, Move
from loopstow.needed import needed_along
from loopstow.reaches import reach_from, reaches_along
from loopstow.standings import Standing


def least_price(task, n=0, m=0):
    """The least price of a right plan for the straight form of some rounds."""
    reaches, spot = searched(task.straight(n, m))
    return reaches[-1].costs[spot]


def least_plan(task, n=0, m=0):
    """A right plan with the least price for the straight form of some rounds."""
    straight = task.straight(n, m)
    return with_forgetting(straight, least_rows(straight))


def least_rows(task):
    """The rows of a least plan of a straight task, with moves of needed names only."""
    reaches, spot = searched(task)
    rows = []
    for reach in reversed(list(reaches)):
        spot, moves = reach.trail(spot)
        rows.append(moves_of(moves))
    return rows[::-1]


def moves_of(texts):
    """The row of moves with these texts."""
    return tuple([Move.read(text) for text in texts])


def searched(task):
    """What is reached exactly at each moment of a straight program, and the index of its end."""
    yard = Yard(task)
    deeds = task.program.ahead
    grounds = [yard.ground_for(names) for names in needed_along(deeds, task.program.results)]
    reach = reach_from(grounds[0], grounds[0].spots[yard.code(task.start, grounds[0].wanted)], False)
    reaches = [reach, *reaches_along(yard, deeds, grounds[1:], reach, False)]
    # Forgetting costs nothing, so one may end with free slots.
    end = Standing((), task.program.results)
    return reaches, grounds[-1].spots[yard.code(end, grounds[-1].wanted)]


def with_forgetting(task, rows):
    """A plan of a straight task, with the forgetting of the names that are not needed put ahead of its rows."""
    deeds = task.program.ahead
    standing = task.start
    plan = []
    for at, names in enumerate(needed_along(deeds, task.program.results)):
        gone = [Forget(name) for name in standing.slots if name not in names]
        plan.append([*gone, *rows[at]])
        for move in plan[at]:
            standing = task.after(standing, move)
        if at < len(deeds):
            standing = task.after(standing, deeds[at])
    return plan
