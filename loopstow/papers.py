"""Papers: tables that show the least prices for all numbers of rounds."""

from loopstow.floors import entry_tables, floors
from loopstow.rounds import Rounds
from loopstow.tables import turn


def paper(task, most=120):
    """The turn, and the tables of entries without rounds, ahead of the loop, of its rounds, and to the end."""
    since, period, gain = turn(task, most)
    rounds = Rounds(task)
    opening = rounds.opening(True)
    reach = opening[-1]
    shown = []
    for _ in range(since + period):
        reaches = rounds.onward(reach)
        shown.append(entry_tables(reaches[1:], rounds.head_ground))
        reach = reaches[-1]
    return (since, period, gain), floors(task.straight()), entry_tables(opening, None), shown, last_tables(rounds)


def last_tables(rounds):
    """The tables of entries to the end, of the last round and behind it."""
    rests = rounds.closing()
    tables = [rest_table(rounds, rests, at) for at in range(len(rounds.last_deeds))]
    end = rests[-1]
    tables.append({
        text: (end.costs[spot], end.trail(spot)[0], None) for spot, text in enumerate(end.ground.texts)
    })
    return tables


def rest_table(rounds, rests, at):
    """The table of entries to the end ahead of a deed."""
    rest, behind = rests[at], rests[at + 1]
    leads = rounds.yard.leads(rest.ground, rounds.last_deeds[at], behind.ground)
    table = {}
    for spot, text in enumerate(rest.ground.texts):
        moves, last = rest.trail(spot)
        table[text] = (rest.costs[spot], moves, behind.ground.texts[leads[last]])
    return table
