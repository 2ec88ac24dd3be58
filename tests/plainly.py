"""Programs that are drawn, and what the document says of them, reckoned plainly and slowly."""

import heapq

from loopstow.deeds import Do, Make, Use
from loopstow.errors import StowError
from loopstow.prices import Prices
from loopstow.programs import Program
from loopstow.tasks import Task


def drawn_deed(source, names):
    kind = source.randrange(6)
    if kind < 3:
        return Use(*source.sample(names, min(source.choice((1, 1, 1, 2, 3)), len(names))))
    if kind == 3:
        return Make(source.choice(names))
    return Do(source.choice(names), *source.sample(names, source.choice((1, 1, 2)) if len(names) > 1 else 1))


def drawn_program(source, loops=0, names="abcd", most=4):
    """A program with so many loops and up to so many deeds in a part, which can be made."""
    while True:
        names = list(names)[:source.randrange(1, len(names) + 1)] if source.random() < 0.3 else list(names)
        rows = [[drawn_deed(source, names) for _ in range(source.randrange(most + 1))] for _ in range(5)]
        some = lambda share: [name for name in names if source.random() < share]
        try:
            return Program(
                rows[0], rows[1] if loops else None, rows[2] if loops == 2 else (), rows[3] if loops == 2 else None,
                rows[4] if loops else (), given=some(0.7),
                again={name: source.choice((0, 1, 2, 3, 9)) for name in some(0.2)}, results=some(0.3),
            )
        except StowError:
            continue


def drawn_prices(source, names="abcd"):
    price = lambda: source.choice((0, 1, 1, 1, 2, 3, 5, 9))
    loads = {name: price() for name in names if source.random() < 0.3}
    return Prices(price(), price(), loads if source.random() < 0.5 else None)


def drawn_task(source, loops=0, names="abcd", most=4, slots=4):
    while True:
        program = drawn_program(source, loops, names, most)
        try:
            return Task(program, source.randrange(1, slots + 1), drawn_prices(source, names))
        except StowError:
            continue


def turning_task(source, loops, names="abcd", most=5):
    """A task of few slots whose loops use names, most of them given, in turn: its rounds differ from one another."""
    while True:
        rows = []
        for _ in range(5):
            row = [Use(name) for name in source.sample(names, source.randrange(min(most, len(names)) + 1))]
            row += [drawn_deed(source, list(names)) for _ in range(source.choice((0, 0, 0, 1, 2)))]
            rows.append(row)
        again = {name: source.choice((1, 2, 9)) for name in names if source.random() < 0.2}
        try:
            program = Program(
                rows[0][:source.choice((2, 4))], rows[1] if loops else None, rows[2][:2] if loops == 2 else (),
                rows[3] if loops == 2 else None, rows[4][:2] if loops else (),
                given=[name for name in names if name not in again or source.random() < 0.5], again=again,
                results=[name for name in names if source.random() < 0.1],
            )
            return Task(program, source.choice((2, 2, 3)), source.choice((None, drawn_prices(source, names))))
        except StowError:
            continue


def needed_now(deeds, results, at):
    """The needed names ahead of a deed of a straight row, by the words of the document."""
    found = []
    for name in sorted({name for deed in deeds for name in deed.names} | set(results)):
        wanted = name in results
        for deed in deeds[at:]:
            if name in deed.uses:
                wanted = True
                break
            if name == deed.makes:
                wanted = False
                break
        if wanted:
            found.append(name)
    return tuple(found)


def moves_from(task, held, kept):
    """All moves from a standing of all names: word, name, price, the standing behind it."""
    again = task.program.again
    for name in task.program.names:
        one = frozenset([name])
        if name in held:
            yield "forget", name, 0, (held - one, kept)
            if name not in kept:
                yield "store", name, task.prices.store, (held, kept | one)
        elif len(held) < task.slots:
            if name in kept:
                yield "load", name, task.prices.load_of(name), (held | one, kept)
            if name in again:
                yield "again", name, again[name], (held | one, kept)


def spread(task, found):
    """The least prices of all standings that can be reached by moves from those that are found."""
    queue = [(price, sorted(held), sorted(kept)) for (held, kept), price in found.items()]
    heapq.heapify(queue)
    least = {}
    while queue:
        price, held, kept = heapq.heappop(queue)
        state = (frozenset(held), frozenset(kept))
        if state in least:
            continue
        least[state] = price
        for _, _, more, (other_held, other_kept) in moves_from(task, *state):
            if (other_held, other_kept) not in least:
                heapq.heappush(queue, (price + more, sorted(other_held), sorted(other_kept)))
    return least


def behind_deed(task, deed, held, kept):
    """The standing behind a deed, or None."""
    if not set(deed.uses) <= held:
        return None
    made = frozenset([deed.makes]) if deed.makes else frozenset()
    if len(held | made) > task.slots:
        return None
    return held | made, kept - made


def all_reached(task, found=None, deeds=None):
    """The least prices of all standings of all names, found by a search: ahead of each deed and behind all."""
    found = found or {(frozenset(), frozenset(task.program.given)): 0}
    rows = [spread(task, found)]
    for deed in task.program.ahead if deeds is None else deeds:
        found = {}
        for (held, kept), price in rows[-1].items():
            state = behind_deed(task, deed, held, kept)
            if state is not None and price < found.get(state, price + 1):
                found[state] = price
        rows.append(spread(task, found))
    return rows


def at_least(reached, standing):
    """The least price of a standing that is at least as good as this one."""
    slots, stored = set(standing.slots), set(standing.stored)
    return min(price for (held, kept), price in reached.items() if slots <= held and stored <= kept)


def to_the_end(task, standing, deeds):
    """The least price from a standing to the end, if these deeds are to be done."""
    found = {(frozenset(standing.slots), frozenset(standing.stored)): 0}
    results = set(task.program.results)
    last = all_reached(task, found, deeds)[-1]
    return min([price for (_, kept), price in last.items() if results <= kept], default=None)


def plain_least(task, n=0, m=0):
    """The least price of a right plan, found by a search over all standings."""
    straight = task.straight(n, m)
    results = set(task.program.results)
    return min(price for (_, kept), price in all_reached(straight)[-1].items() if results <= kept)


def late_tasks():
    """Tasks whose tables turn late, with their turns."""
    return [
        (Task(
            Program(loop=[Use("c"), Use("d"), Use("e"), Use("a")], given="acf", again={"a": 5, "d": 7, "e": 8, "f": 2},
                    results="ce"),
            3, Prices(8, 9, {"b": 2, "c": 3, "f": 2, "d": 5, "e": 3, "a": 8}),
        ), (55, 3, 16)),
        (Task(
            Program([Make("c")], [Use("f"), Use("c"), Use("e"), Use("b")], behind=[Do("b", "d")], given="bde",
                    again={"a": 7, "e": 8, "f": 9}, results="be"),
            3, Prices(7, 8, {"a": 6, "c": 9, "f": 9, "b": 3, "d": 1}),
        ), (48, 3, 28)),
        (Task(
            Program([Do("c", "c"), Use("b", "a"), Do("f", "e", "d"), Use("a"), Do("f", "c"), Make("c")],
                    [Use("f"), Use("e"), Use("c"), Use("a"), Use("b")], given="ce", again={"a": 8, "b": 6, "d": 3},
                    results="cf"),
            4, Prices(3, 9, {"d": 7, "e": 1, "b": 3}),
        ), (109, 4, 13)),
    ]


def long_endings():
    """Tasks whose least plans depend on how many rounds are to come, also if these are many."""
    return [
        Task(
            Program(
                [Do("a", "a"), Use("b", "a", "c")],
                [Use("b"), Do("a", "c", "a"), Use("a"), Use("c", "a"), Use("e"), Use("a", "d")],
                behind=[Do("a", "c", "b")], given="abde", again={"b": 9, "c": 4}, results="ad",
            ),
            4, Prices(8, 9, {"a": 1, "e": 9, "c": 3}),
        ),
        Task(
            Program(
                [Use("e"), Do("c", "b"), Use("a"), Use("a", "b", "c"), Use("e", "d", "a")],
                [Use("c"), Use("b", "d"), Use("a"), Use("e")], behind=[Use("a")], given="de",
                again={"a": 9, "b": 2, "d": 4}, results="ad",
            ),
            4, Prices(0, 7, {"c": 7, "d": 7, "e": 6, "b": 7, "a": 7}),
        ),
        Task(
            Program(
                [Use("b", "c"), Use("a", "b", "d"), Make("a")],
                [Use("a"), Use("b", "d"), Use("b"), Use("c"), Use("d"), Use("c")], behind=[Use("c", "d", "b")],
                given="abcd", again={"e": 3}, results="de",
            ),
            3, Prices(5, 8, {"c": 3, "d": 2, "e": 3, "b": 5, "a": 5}),
        ),
    ]
