"""The look at papers: whether they show the least prices for all numbers of rounds. It searches nothing."""

from loopstow.checks import is_count, is_number
from loopstow.floors import are_tables, are_texts, has_texts, leads_well, led_by_moves, shows_least, starts_well
from loopstow.grounds import UP
from loopstow.programs import check_one_loop
from loopstow.rounds import Rounds
from loopstow.rows import Row


def shows_row(task, row, paper):
    """Whether any two values, a row and a paper, show that the row is that of the least prices."""
    check_one_loop(task.program)
    rounds = Rounds(task)
    if not isinstance(row, Row) or not is_paper(rounds, paper):
        return False
    turn, none, before, shown, last = paper
    # A loop without deeds leaves the table as it is.
    heads = [before[-1], *[tables[-1] if tables else before[-1] for tables in shown]]
    return (
        comes_round(turn, heads) and is_told(row, turn, heads, last[0])
        and shows_least(task.straight(), row[0], none)
        and starts_well(task, rounds.yard, rounds.ahead_grounds[0], before[0])
        and goes_well(rounds.yard, rounds.ahead_deeds, rounds.ahead_grounds, before)
        and all([
            goes_well(rounds.yard, rounds.deeds, rounds.round_grounds, [head, *tables])
            for head, tables in zip(heads, shown)
        ])
        and ends_well(rounds, last)
    )


def is_paper(rounds, value):
    """Whether any value has the form of a paper."""
    if not isinstance(value, tuple) or len(value) != 5 or not is_turn(value[0]):
        return False
    turn, _, before, shown, last = value
    if not isinstance(shown, list) or len(shown) != turn[0] + turn[1]:
        return False
    return (
        are_tables(before, rounds.ahead_grounds)
        and all([are_tables(tables, rounds.round_grounds[1:]) for tables in shown])
        and are_tables_to_go(last, rounds.last_grounds)
    )


def is_turn(value):
    """Whether any value has the form of a turn."""
    return isinstance(value, tuple) and len(value) == 3 and all([is_count(n) for n in value]) and value[1] > 0


def are_tables_to_go(value, grounds):
    """Whether any value is a list of tables to go for these grounds."""
    if not isinstance(value, list) or len(value) != len(grounds):
        return False
    for table, ground in zip(value, grounds):
        if not has_texts(table, ground) or not all([is_entry_to_go(table[text]) for text in ground.texts]):
            return False
    return True


def is_entry_to_go(value):
    """Whether any value is a tuple of an integer, a tuple of strings, and a string or None."""
    if not isinstance(value, tuple) or len(value) != 3 or not is_number(value[0]) or not are_texts(value[1]):
        return False
    return value[2] is None or isinstance(value[2], str)


def comes_round(turn, heads):
    """Whether the table of the turn is that of its start, with the same number added to all of its numbers."""
    since, period, gain = turn
    first, again = heads[since], heads[since + period]
    return all([again[text][0] == first[text][0] + gain for text in first])


def is_told(row, turn, heads, last):
    """Whether the numbers of a row, from 1 on, are those that the tables and the turn tell."""
    since, period, gain = turn
    if row.start > since + 1 or period % row.period != 0 or gain != row.step * (period // row.period):
        return False
    for r, head in enumerate(heads):
        if row[r + 1] != min([int(head[text][0] + last[text][0]) for text in head]):
            return False
    return True


def goes_well(yard, deeds, grounds, tables):
    """Whether each table of entries is met and floors from the one ahead of its deed."""
    for at, deed in enumerate(deeds):
        if not leads_well(yard, (grounds[at], tables[at]), deed, (grounds[at + 1], tables[at + 1])):
            return False
    return True


def ends_well(rounds, last):
    """Whether the tables to go are met and are ceilings."""
    yard, grounds = rounds.yard, rounds.last_grounds
    for at, deed in enumerate(rounds.last_deeds):
        if not rests_well(yard, (grounds[at], last[at]), deed, (grounds[at + 1], last[at + 1])):
            return False
    return is_end(yard, grounds[-1], last[-1])


def rests_well(yard, ahead, deed, behind):
    """Whether the table to go ahead of a deed is met and a ceiling; each is a pair of a ground and its table."""
    here, table = ahead
    there, known = behind
    aims = dict(zip(there.texts, there.codes))
    for code, text in zip(here.codes, here.texts):
        number, moves, aim = table[text]
        led = led_by_moves(yard, here, code, moves)
        if led is None or aim not in aims or number != led[1] + known[aim][0]:
            return False
        reached = yard.behind_deed(led[0], deed)
        if reached is None or reached & aims[aim] != aims[aim]:
            return False
    for text, spot in zip(here.texts, yard.leads(here, deed, there)):
        if spot is not None and table[text][0] > known[there.texts[spot]][0]:
            return False
    return is_ceiling(here, table)


def is_end(yard, ground, table):
    """Whether the table to go behind all deeds is met and a ceiling."""
    results = ground.wanted << UP
    for code, text in zip(ground.codes, ground.texts):
        number, moves, aim = table[text]
        led = led_by_moves(yard, ground, code, moves)
        if led is None or aim is not None or led[0] & results != results or number != led[1]:
            return False
        if code & results == results and number != 0:
            return False
    return is_ceiling(ground, table)


def is_ceiling(ground, table):
    """Whether no move leads from a standing of a table to go to one from which less is to go than this allows."""
    numbers = [table[text][0] for text in ground.texts]
    return all([numbers[here] <= numbers[there] + price for here, there, price, _ in ground.arcs])
