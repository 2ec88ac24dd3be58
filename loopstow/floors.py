"""Floors: tables of entries that show the least price of a straight program, and the look at them."""

from loopstow.checks import is_number
from loopstow.errors import HasLoop
from loopstow.grounds import UP, Yard
from loopstow.needed import needed_along
from loopstow.reaches import reach_from, reaches_along


def floors(task):
    """The tables of entries of a straight program, one for each moment."""
    check_straight(task)
    yard = Yard(task)
    deeds = task.program.ahead
    grounds = grounds_of(task, yard)
    reach = reach_from(grounds[0], start_spot(task, yard, grounds[0]), True)
    return entry_tables([reach, *reaches_along(yard, deeds, grounds[1:], reach, True)], None)


def shows_least(task, price, tables):
    """Whether any two values show that a price is the least one of a straight program."""
    check_straight(task)
    yard = Yard(task)
    deeds = task.program.ahead
    grounds = grounds_of(task, yard)
    if not is_number(price) or not are_tables(tables, grounds):
        return False
    if not starts_well(task, yard, grounds[0], tables[0]):
        return False
    for at, deed in enumerate(deeds):
        if not leads_well(yard, (grounds[at], tables[at]), deed, (grounds[at + 1], tables[at + 1])):
            return False
    wanted = grounds[-1].wanted << UP
    stored = [text for code, text in zip(grounds[-1].codes, grounds[-1].texts) if code & wanted == wanted]
    return price == min([int(tables[-1][text][0]) for text in stored])


def check_straight(task):
    """Refuse a program with a loop."""
    if task.program.loop is not None:
        raise HasLoop()


def grounds_of(task, yard):
    """The grounds of the moments of a straight program."""
    return [yard.ground_for(names) for names in needed_along(task.program.ahead, task.program.results)]


def start_spot(task, yard, ground):
    """The index of the start, of needed names only."""
    return ground.spots[yard.code(task.start, ground.wanted)]


def entry_tables(reaches, ground):
    """The tables of entries of some reaches; the ground is the one ahead of the first one, or None."""
    tables = []
    for reach in reaches:
        table = {}
        for spot, text in enumerate(reach.ground.texts):
            came, moves = reach.trail(spot)
            before = None if came is None else ground.texts[came]
            table[text] = (reach.costs[spot], before, moves)
        tables.append(table)
        ground = reach.ground
    return tables


def are_tables(value, grounds):
    """Whether any value is a list of tables of entries for these grounds."""
    if not isinstance(value, list) or len(value) != len(grounds):
        return False
    return all([is_table(table, ground) for table, ground in zip(value, grounds)])


def is_table(value, ground):
    """Whether any value is a dict from just the texts of the sound standings to what has the form of an entry."""
    return has_texts(value, ground) and all([is_entry(value[text]) for text in ground.texts])


def has_texts(value, ground):
    """Whether any value is a dict whose keys are just the texts of the sound standings."""
    if not isinstance(value, dict) or len(value) != len(ground.texts):
        return False
    return all([text in value for text in ground.texts])


def is_entry(value):
    """Whether any value is a tuple of an integer, a string or None, and a tuple of strings."""
    if not isinstance(value, tuple) or len(value) != 3 or not is_number(value[0]):
        return False
    if value[1] is not None and not isinstance(value[1], str):
        return False
    return are_texts(value[2])


def are_texts(value):
    """Whether any value is a tuple of strings."""
    return isinstance(value, tuple) and all([isinstance(text, str) for text in value])


def starts_well(task, yard, ground, table):
    """Whether the first table is met and floors."""
    start = start_spot(task, yard, ground)
    if table[ground.texts[start]][0] != 0:
        return False
    for code, text in zip(ground.codes, ground.texts):
        number, before, moves = table[text]
        if before is not None or not is_met(yard, ground, ground.codes[start], moves, code, number):
            return False
    return floors_by_moves(ground, table)


def leads_well(yard, ahead, deed, behind):
    """Whether the table behind a deed is met and floors; each is a pair of a ground and its table."""
    here, known = ahead
    there, table = behind
    steps = {text: spot for text, spot in zip(here.texts, yard.leads(here, deed, there))}
    for code, text in zip(there.codes, there.texts):
        number, before, moves = table[text]
        if before not in steps or steps[before] is None:
            return False
        if not is_met(yard, there, there.codes[steps[before]], moves, code, number - known[before][0]):
            return False
    for text in here.texts:
        if steps[text] is not None and table[there.texts[steps[text]]][0] > known[text][0]:
            return False
    return floors_by_moves(there, table)


def is_met(yard, ground, start, moves, aim, price):
    """Whether moves of needed names lead from one code to one that is at least as good as another, at a price."""
    led = led_by_moves(yard, ground, start, moves)
    return led is not None and led[0] & aim == aim and led[1] == price


def led_by_moves(yard, ground, code, moves):
    """The code behind moves of needed names, and their price, or None if they cannot be done."""
    price = 0
    for text in moves:
        if text not in yard.costs or not yard.costs[text][1] & ground.wanted:
            return None
        code = yard.behind_move(code, text)
        if code is None:
            return None
        price = price + yard.costs[text][2]
    return code, price


def floors_by_moves(ground, table):
    """Whether no move leads from a standing of a table to one with a number that is too great."""
    numbers = [table[text][0] for text in ground.texts]
    return all([numbers[there] <= numbers[here] + price for here, there, price, _ in ground.arcs])
