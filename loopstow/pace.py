"""The pace of one loop, and the paper that shows it."""

from math import gcd

from loopstow.checks import is_count, is_number
from loopstow.cycles import least_ring
from loopstow.floors import are_texts, has_texts, led_by_moves
from loopstow.programs import check_one_loop
from loopstow.rounds import Rounds


def pace(task):
    """The pair (q, p), in lowest terms, of the price of a row of rounds and their number, in the long run."""
    check_one_loop(task.program)
    ring, _ = least_ring(Rounds(task))
    return ring.gain, ring.per


def pace_paper(task):
    """A ring of rounds that has the pace, and numbers that show that no other one has less."""
    check_one_loop(task.program)
    rounds = Rounds(task)
    ring, numbers = least_ring(rounds)
    tables = [dict(zip(ground.texts, costs)) for ground, costs in zip(rounds.round_grounds, numbers)]
    return tuple([(rounds.head_ground.texts[spot], rows) for spot, rows in ring.legs]), tables


def shows_pace(task, pace, paper):
    """Whether any two values, a pair and a paper, show that the pair is the pace."""
    check_one_loop(task.program)
    rounds = Rounds(task)
    if not is_pace(pace) or not isinstance(paper, tuple) or len(paper) != 2:
        return False
    ring, numbers = paper
    return (
        is_ring(rounds, ring) and are_numbers(rounds, numbers)
        and goes_around(rounds, ring, pace) and holds_below(rounds, numbers, pace)
    )


def is_pace(value):
    """Whether any value is a pair of integers from 0 and from 1, in lowest terms."""
    if not isinstance(value, tuple) or len(value) != 2 or not is_count(value[0]) or not is_count(value[1]):
        return False
    return gcd(value[0], value[1]) == 1 and value[1] > 0


def is_ring(rounds, value):
    """Whether any value has the form of a ring."""
    if not isinstance(value, tuple) or len(value) == 0:
        return False
    for pair in value:
        if not isinstance(pair, tuple) or len(pair) != 2:
            return False
        text, rows = pair
        if not isinstance(text, str) or text not in rounds.head_ground.texts or not isinstance(rows, tuple):
            return False
        if len(rows) != len(rounds.deeds) or not all([are_texts(row) for row in rows]):
            return False
    return True


def are_numbers(rounds, value):
    """Whether any value is a list of tables of integers, one ahead of each deed, or one alone without deeds."""
    if not isinstance(value, list) or len(value) != max(1, len(rounds.deeds)):
        return False
    for table, ground in zip(value, rounds.round_grounds):
        if not has_texts(table, ground) or not all([is_number(table[text]) for text in ground.texts]):
            return False
    return True


def goes_around(rounds, ring, pace):
    """Whether each round of a ring leads to the next standing, and all of them together cost what the pace tells."""
    codes = dict(zip(rounds.head_ground.texts, rounds.head_ground.codes))
    paid = 0
    for at, (text, rows) in enumerate(ring):
        aim = codes[ring[(at + 1) % len(ring)][0]]
        led = led_by_round(rounds, codes[text], rows)
        if led is None or led[0] & aim != aim:
            return False
        paid = paid + led[1]
    gain, every = pace
    return paid * every == gain * len(ring)


def led_by_round(rounds, code, rows):
    """The code behind the rows and deeds of a round, of needed names only, and their price; or None."""
    paid = 0
    grounds = rounds.round_grounds
    for at, moves in enumerate(rows):
        led = led_by_moves(rounds.yard, grounds[at], code, moves)
        if led is None:
            return None
        code = rounds.yard.behind_deed(led[0], rounds.deeds[at])
        if code is None:
            return None
        code = code & grounds[at + 1].mask_of_both
        paid = paid + led[1]
    return code, paid


def holds_below(rounds, numbers, pace):
    """Whether no move, deed or round costs less than what the numbers rise."""
    gain, every = pace
    grounds = rounds.round_grounds
    for ground, table in zip(grounds, numbers):
        known = [table[text] for text in ground.texts]
        if not all([known[there] <= known[here] + every * price for here, there, price, _ in ground.arcs]):
            return False
    if not rounds.deeds:
        return gain == 0
    for at, deed in enumerate(rounds.deeds):
        last = at + 1 == len(rounds.deeds)
        table, more = (numbers[0], gain) if last else (numbers[at + 1], 0)
        for text, spot in zip(grounds[at].texts, rounds.yard.leads(grounds[at], deed, grounds[at + 1])):
            if spot is not None and table[grounds[at + 1].texts[spot]] + more > numbers[at][text]:
                return False
    return True
