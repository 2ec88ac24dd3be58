"""Reading the texts of programs and plans."""

from loopstow.checks import is_name
from loopstow.errors import BadText
from loopstow.moves import Again, Forget, Load, Move, Store
from loopstow.programs import Program


def read_program(text):
    """The program with this text."""
    return Program.read(text)


def read_plan(text):
    """The plan with this text, a list of lists of moves."""
    if not isinstance(text, str):
        raise BadText(0, 0)
    return [read_row(at, line.split(" ")) for at, line in enumerate(text.split("\n"))]


def read_row(at, words):
    """The moves of the line with this number."""
    if words[0] == "-":
        if len(words) > 1:
            raise BadText(at, 1)
        return []
    moves = []
    index = 0
    more = True
    while more:
        # A word that is missing is told by the number of the words, too.
        if index == len(words) or words[index] not in (Load.WORD, Again.WORD, Store.WORD, Forget.WORD):
            raise BadText(at, index)
        if index + 1 == len(words):
            raise BadText(at, index + 1)
        name = words[index + 1].removesuffix(",")
        if not is_name(name):
            raise BadText(at, index + 1)
        moves.append(Move.read(f"{words[index]} {name}"))
        more = name != words[index + 1]
        index += 2
    if index < len(words):
        raise BadText(at, index)
    return moves
