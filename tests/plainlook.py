"""What the document asks of papers and paces, word by word and slowly; and papers that are spoiled at one place."""

import math

from loopstow.errors import StowError
from loopstow.floors import shows_least
from loopstow.moves import Move
from loopstow.needed import needed
from loopstow.rows import Row
from loopstow.standings import Standing
from loopstow.straight import least_plan

BOTH = (False, True)


def is_int(value):
    return value.__class__ is int


def are_texts(value):
    return value.__class__ is tuple and all(one.__class__ is str for one in value)


def has_keys(value, sound):
    return value.__class__ is dict and set(value) == {str(one) for one in sound}


def moved(task, standing, names, moves):
    """The standing behind moves of these names, and their price, or None."""
    price = 0
    for text in moves:
        try:
            move = Move.read(text)
            if move.name not in names:
                return None
            standing = task.after(standing, move)
            price += task.price_of(move)
        except StowError:
            return None
    return standing, price


def done(task, standing, deed, names):
    """The standing behind a deed, of these names, or None."""
    try:
        return task.after(standing, deed).only(names)
    except StowError:
        return None


def all_moves(names):
    return [Move.read(f"{word} {name}") for word in ("load", "again", "store", "forget") for name in names]


def steps(task, sound, names):
    """All moves between sound standings: text, text behind, price."""
    known = {str(one) for one in sound}
    for one in sound:
        for move in all_moves(names):
            led = moved(task, one, names, [str(move)])
            if led is not None and str(led[0]) in known:
                yield str(one), str(led[0]), led[1]


class Place:
    """A place with some rounds to come: its names, its sound standings, and what follows from them, reckoned once."""

    def __init__(self, task, place, **told):
        self.task = task
        self.names = needed(task.program, place, **told)
        self.sound = list(task.standings(place, **told))
        self.steps = list(steps(task, self.sound, self.names))
        self.known = {}

    def leads(self, deed, there):
        key = (str(deed), there.names)
        if key not in self.known:
            behind = {str(one): done(self.task, one, deed, there.names) for one in self.sound}
            self.known[key] = {text: str(other) for text, other in behind.items() if other is not None}
        return self.known[key]


class Look:
    """A plain look at the papers of one task."""

    def __init__(self, task):
        program = task.program
        self.task = task
        self.ahead = [Place(task, ("ahead", at)) for at in range(len(program.ahead) + 1)]
        self.round = [Place(task, ("loop", at)) for at in range(len(program.loop) + 1)]
        self.last = [Place(task, ("loop", at), further=False) for at in range(len(program.loop) + 1)]
        self.last += [Place(task, ("behind", at)) for at in range(1, len(program.behind) + 1)]
        self.last_deeds = (*program.loop, *program.behind)

    def is_table(self, value, place, to_go):
        if not has_keys(value, place.sound):
            return False
        for entry in value.values():
            if entry.__class__ is not tuple or len(entry) != 3 or not is_int(entry[0]):
                return False
            moves, text = entry[1:] if to_go else (entry[2], entry[1])
            if not are_texts(moves) or not (text is None or text.__class__ is str):
                return False
        return True

    def are_tables(self, value, places, to_go=False):
        return value.__class__ is list and len(value) == len(places) and all(
            self.is_table(table, place, to_go) for table, place in zip(value, places)
        )

    def starts(self, table):
        place = self.ahead[0]
        start = self.task.start.only(place.names)
        if table[str(start)][0] != 0:
            return False
        return all(
            before is None and self.is_met(place, start, moves, text, number)
            for text, (number, before, moves) in table.items()
        ) and self.floors(place, table)

    def is_met(self, place, standing, moves, text, price):
        led = moved(self.task, standing, place.names, moves)
        return led is not None and Standing.read(text) <= led[0] and led[1] == price

    def floors(self, place, table):
        return all(table[there][0] <= table[here][0] + price for here, there, price in place.steps)

    def follows(self, here, known, deed, there, table):
        leads = here.leads(deed, there)
        for text, (number, before, moves) in table.items():
            if before not in leads:
                return False
            if not self.is_met(there, Standing.read(leads[before]), moves, text, number - known[before][0]):
                return False
        return all(table[leads[text]][0] <= known[text][0] for text in leads) and self.floors(there, table)

    def ends(self, last):
        for at, (place, table) in enumerate(zip(self.last, last)):
            for text, (number, moves, behind) in table.items():
                led = moved(self.task, Standing.read(text), place.names, moves)
                if led is None:
                    return False
                if at == len(self.last_deeds):
                    if behind is not None or not set(self.task.program.results) <= set(led[0].stored):
                        return False
                    if number != led[1]:
                        return False
                    if set(self.task.program.results) <= set(Standing.read(text).stored) and number != 0:
                        return False
                else:
                    reached = done(self.task, led[0], self.last_deeds[at], self.last[at + 1].names)
                    if reached is None or behind not in last[at + 1] or not Standing.read(behind) <= reached:
                        return False
                    if number != led[1] + last[at + 1][behind][0]:
                        return False
            if not all(table[here][0] <= table[there][0] + price for here, there, price in place.steps):
                return False
            if at < len(self.last_deeds):
                leads = place.leads(self.last_deeds[at], self.last[at + 1])
                if not all(table[text][0] <= last[at + 1][leads[text]][0] for text in leads):
                    return False
        return True

    def shows_row(self, row, paper):
        if row.__class__ is not Row or paper.__class__ is not tuple or len(paper) != 5:
            return False
        told, none, before, rounds, last = paper
        if told.__class__ is not tuple or len(told) != 3 or not all(is_int(one) and one >= 0 for one in told):
            return False
        s, p, q = told
        if p < 1 or rounds.__class__ is not list or len(rounds) != s + p:
            return False
        if not self.are_tables(before, self.ahead) or not self.are_tables(last, self.last, True):
            return False
        if not all(self.are_tables(tables, self.round[1:]) for tables in rounds):
            return False
        if not shows_least(self.task.straight(), row[0], none) or not self.starts(before[0]):
            return False
        program = self.task.program
        for at, deed in enumerate(program.ahead):
            if not self.follows(self.ahead[at], before[at], deed, self.ahead[at + 1], before[at + 1]):
                return False
        heads = [before[-1]]
        for tables in rounds:
            known = [heads[-1], *tables]
            for at, deed in enumerate(program.loop):
                if not self.follows(self.round[at], known[at], deed, self.round[at + 1], known[at + 1]):
                    return False
            heads.append(known[-1])
        if any(heads[s + p][text][0] != heads[s][text][0] + q for text in heads[0]) or not self.ends(last):
            return False
        for n in range(1, s + p + 2):
            if row[n] != min(heads[n - 1][text][0] + last[0][text][0] for text in last[0]):
                return False
        return row.start <= s + 1 and p % row.period == 0 and q == p // row.period * row.step

    def shows_pace(self, pace, paper):
        if pace.__class__ is not tuple or len(pace) != 2 or not all(is_int(one) for one in pace):
            return False
        q, p = pace
        if q < 0 or p < 1 or math.gcd(q, p) != 1 or paper.__class__ is not tuple or len(paper) != 2:
            return False
        ring, numbers = paper
        return self.is_ring(ring, q, p) and self.are_numbers(numbers, q, p)

    def is_ring(self, ring, q, p):
        loop, head = self.task.program.loop, [str(one) for one in self.round[0].sound]
        if ring.__class__ is not tuple or not ring:
            return False
        for pair in ring:
            if pair.__class__ is not tuple or len(pair) != 2 or pair[0].__class__ is not str or pair[0] not in head:
                return False
            if pair[1].__class__ is not tuple or len(pair[1]) != len(loop) or not all(are_texts(row) for row in pair[1]):
                return False
        paid = 0
        for (text, rows), (aim, _) in zip(ring, ring[1:] + ring[:1]):
            standing = Standing.read(text)
            for at, row in enumerate(rows):
                led = moved(self.task, standing, self.round[at].names, row)
                if led is None:
                    return False
                standing = done(self.task, led[0], loop[at], self.round[at + 1].names)
                if standing is None:
                    return False
                paid += led[1]
            if not Standing.read(aim) <= standing:
                return False
        return paid * p == q * len(ring)

    def are_numbers(self, numbers, q, p):
        loop = self.task.program.loop
        places = self.round[:-1] or self.round
        if numbers.__class__ is not list or len(numbers) != len(places):
            return False
        for table, place in zip(numbers, places):
            if not has_keys(table, place.sound) or not all(is_int(one) for one in table.values()):
                return False
            if any(table[there] > table[here] + p * price for here, there, price in place.steps):
                return False
        if not loop:
            return q == 0
        for at, deed in enumerate(loop):
            leads = self.round[at].leads(deed, self.round[at + 1])
            last = at + 1 == len(loop)
            for text in leads:
                table, more = (numbers[0], q) if last else (numbers[at + 1], 0)
                if table[leads[text]] + more > numbers[at][text]:
                    return False
        return True


def places_in(value, path=()):
    """The paths to all parts of a value."""
    yield path
    if isinstance(value, (list, tuple)):
        for at, one in enumerate(value):
            yield from places_in(one, (*path, at))
    elif isinstance(value, dict):
        for key, one in value.items():
            yield from places_in(one, (*path, key))


def part_at(value, path):
    for key in path:
        value = value[key]
    return value


def changed_at(value, path, new):
    """The value with another part at a path."""
    if not path:
        return new
    one = changed_at(value[path[0]], path[1:], new)
    if isinstance(value, dict):
        return {key: one if key == path[0] else value[key] for key in value}
    items = [one if at == path[0] else other for at, other in enumerate(value)]
    return tuple(items) if isinstance(value, tuple) else items


def spoiled(source, value, depth=9):
    """The value with one part exchanged for another one."""
    path = ()
    while True:
        part = part_at(value, path)
        if not isinstance(part, (list, tuple, dict)) or not part or source.random() < 0.12 or len(path) >= depth:
            break
        path = (*path, source.choice(list(part) if isinstance(part, dict) else range(len(part))))
    return changed_at(value, path, other_part(source, part))


def other_part(source, part):
    """Something else of the same kind, or nearly."""
    if source.random() < 0.08:
        return source.choice([None, True, 0, "", "load a", (), [], {}, [part], (part,)])
    if isinstance(part, bool) or part is None:
        return source.choice([0, "- / -", "a / a"])
    if isinstance(part, int):
        return source.choice([part + 1, part - 1, part + 1, part - 1, -part, part + 2, part == 1])
    if isinstance(part, str):
        return source.choice(["- / -", "a / a", "a b / a b", "load a", "store a", "forget b", part + " ", part[::-1], None])
    if isinstance(part, dict):
        keys = list(part)
        if not keys:
            return {"- / -": 0}
        one, two = source.choice(keys), source.choice(keys)
        return source.choice([
            {key: part[key] for key in keys if key != one}, {**part, "x / y": part[one]}, {**part, one: part[two]},
            {**part, one: part[two]}, {**part, one: part[two], two: part[one]}, {**part, 1: part[one]}, list(part.items()),
        ])
    items = list(part)
    if items:
        at, to = source.randrange(len(items)), source.randrange(len(items))
        items = source.choice([
            items[:at] + items[at + 1:], [*items, items[at]], [*items[:at], items[to], *items[at + 1:]],
            [*items[:at], items[at], *items[at:]], items[::-1], items,
        ])
        if items == list(part):
            return items if isinstance(part, tuple) else tuple(items)
    else:
        items = [source.choice(["load a", "forget a", "store a", "again a", {}, 0])]
    return tuple(items) if isinstance(part, tuple) else items


def ending_moves(task):
    """The texts of the moves of a least plan without rounds."""
    return [[str(move) for move in row] for row in least_plan(task.straight())]
