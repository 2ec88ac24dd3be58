"""The fewest slots for a given pace."""

from loopstow.cycles import least_ring
from loopstow.programs import check_one_loop
from loopstow.rounds import Rounds
from loopstow.tasks import MOST_SLOTS, Task


def fewest_slots(program, prices, pace):
    """The least number of slots with which the pace of a program is at most a pair, or None."""
    check_one_loop(program)
    gain, period = pace
    for slots in range(program.room, MOST_SLOTS + 1):
        ring = least_ring(Rounds(Task(program, slots, prices)))[0]
        if ring.gain * period <= gain * ring.per:
            return slots
    return None
