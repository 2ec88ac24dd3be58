"""Pins: what it costs that names lie in slots at each deed of the loop."""

from loopstow.checks import check_unlike, is_name
from loopstow.errors import BadName, Crowded
from loopstow.loops import row_of_rounds
from loopstow.partchecks import PARTS
from loopstow.programs import check_one_loop
from loopstow.rounds import Rounds


def pinned_row(task, names, most=120):
    """The row of the least prices of plans in which names lie in slots whenever a deed of the loop is done."""
    check_one_loop(task.program)
    check_pins(task.program, names)
    for index, deed in enumerate(task.program.loop):
        if len(set([*names, *deed.names])) > task.slots:
            raise Crowded(("loop", index))
    return row_of_rounds(task, Rounds(task, tuple(names)), most)


def check_pins(program, names):
    """Refuse what is not a name that the loop uses and no deed makes, and a name that stands twice."""
    used = [name for deed in program.loop for name in deed.uses]
    made = [deed.makes for part in PARTS for deed in program.deeds_of(part) or ()]
    for value in names:
        if not is_name(value) or value not in used or value in made:
            raise BadName(value)
    check_unlike(names)
