"""Orders: the rows of deeds in which each use sees the value that it saw, and the cheapest of them."""

from loopstow.errors import TooMany
from loopstow.loops import row
from loopstow.programs import check_one_loop, with_parts
from loopstow.tasks import Task

MOST_ORDERS = 24


def orders(deeds):
    """All rows that come of some deeds by exchanging neighbours that do not hang together."""
    known = list(deeds)
    found = index_rows(known)
    if len(found) > MOST_ORDERS:
        raise TooMany(MOST_ORDERS)
    for indexes in found:
        yield tuple([known[index] for index in indexes])


def order_rows(task, most=120):
    """The pairs of an order of the loop's deeds and the row of the task with this loop."""
    check_one_loop(task.program)
    pairs = []
    for deeds in orders(task.program.loop):
        program = with_parts(task.program, task.program.ahead, deeds, task.program.behind)
        pairs.append((deeds, row(Task(program, task.slots, task.prices), most)))
    return pairs


def best_order(task, most=120):
    """The first pair of an order and its row with the least pace."""
    best = None
    for pair in order_rows(task, most):
        if best is None or is_cheaper(pair[1].pace, best[1].pace):
            best = pair
    return best


def is_cheaper(one, other):
    """Whether one pace is less than another one."""
    return one[0] * other[1] < other[0] * one[1]


def hang_together(one, other):
    """Whether one of two deeds makes a name that the other one uses or makes."""
    return makes_of(one, other) or makes_of(other, one)


def makes_of(one, other):
    """Whether a deed makes a name that another one uses or makes."""
    return one.makes is not None and (one.makes in other.uses or one.makes == other.makes)


def index_rows(deeds):
    """The rows of indexes of all orders, ascending, the first one of equal rows; one too many is enough."""
    # For each deed the bits of those that must be done ahead of it.
    ahead = [
        sum([1 << other for other in range(at) if hang_together(deeds[other], deeds[at])]) for at in range(len(deeds))
    ]
    found = []
    todo = [((), 0)]
    while todo and len(found) <= MOST_ORDERS:
        indexes, done = todo.pop()
        if len(indexes) == len(deeds):
            found.append(indexes)
        nexts = []
        for at in range(len(deeds)):
            # Of equal deeds that can be done now, the first one stands for all.
            if not done >> at & 1 and not ahead[at] & ~done and not stands_for(deeds, nexts, at):
                nexts.append(at)
        todo.extend([((*indexes, at), done | 1 << at) for at in nexts[::-1]])
    return found


def stands_for(deeds, indexes, at):
    """Whether a deed equals one of some others."""
    return any([deeds[index] == deeds[at] for index in indexes])
