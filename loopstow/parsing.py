"""Reading the text of a program, line by line and word by word.

Each reader takes all lines, as lists of words, and the number of the line at which it begins. It returns
what it read and the number of the first line that it left.
"""

from loopstow.checks import DIGITS, is_name
from loopstow.deeds import Deed
from loopstow.errors import BadText

# For each first word of a deed: the least and the greatest number of words, and the index of the first used name.
DEED_FORMS = {"use": (2, 4, 1), "make": (2, 2, 2), "do": (3, 5, 2)}


def program_of_text(text):
    """What a text says of a program: a dict of its parts, and its given, again and result names."""
    if not isinstance(text, str):
        raise BadText(0, 0)
    # The empty text has no line at all, instead of one with an empty word.
    lines = [line.split(" ") for line in text.split("\n")] if text else []
    given, at = read_names(lines, 0, "given")
    again, at = read_again(lines, at)
    results, at = read_names(lines, at, "results")
    parts, at = read_parts(lines, at)
    if at < len(lines):
        raise BadText(at, 0)
    return parts, given, again, results


def begins(lines, at, word):
    """Whether there is a line with this number that has this first word."""
    return at < len(lines) and lines[at][0] == word


def read_names(lines, at, word):
    """The names of the line with this first word, if it stands here."""
    if not begins(lines, at, word):
        return [], at
    words = lines[at]
    for index in range(1, len(words)):
        if not is_name(words[index]) or index > 1 and words[index] <= words[index - 1]:
            raise BadText(at, index)
    check_length(at, words, 2, len(words))
    return words[1:], at + 1


def read_again(lines, at):
    """The again names with their prices, a line each."""
    prices = {}
    name = ""
    while begins(lines, at, "again"):
        words = lines[at]
        if len(words) > 1 and (not is_name(words[1]) or words[1] <= name):
            raise BadText(at, 1)
        if len(words) > 2 and (len(words[2]) != 1 or words[2] not in DIGITS):
            raise BadText(at, 2)
        check_length(at, words, 3, 3)
        name = words[1]
        prices[name] = int(words[2])
        at += 1
    return prices, at


def read_parts(lines, at):
    """The five parts, as a dict; the deeds behind the first loop are those between only if a second loop follows."""
    parts = {"loop": None, "between": [], "second": None, "behind": []}
    parts["ahead"], at = read_deeds(lines, at)
    if begins(lines, at, "loop"):
        parts["loop"], at = read_loop(lines, at)
        parts["behind"], at = read_deeds(lines, at)
        if begins(lines, at, "second"):
            parts["between"] = parts["behind"]
            parts["second"], at = read_loop(lines, at)
            parts["behind"], at = read_deeds(lines, at)
    return parts, at


def read_loop(lines, at):
    """The deeds of a loop, from the line of its first word to its end."""
    check_length(at, lines[at], 1, 1)
    deeds, at = read_deeds(lines, at + 1)
    if not begins(lines, at, "end"):
        raise BadText(at, 0)
    check_length(at, lines[at], 1, 1)
    return deeds, at + 1


def read_deeds(lines, at):
    """The deeds of all lines from here that begin as a deed does."""
    deeds = []
    while at < len(lines) and lines[at][0] in DEED_FORMS:
        check_deed(at, lines[at])
        deeds.append(Deed.read(" ".join(lines[at])))
        at += 1
    return deeds, at


def check_deed(at, words):
    """Refuse the first word that cannot stand in the line of a deed."""
    least, most, first_used = DEED_FORMS[words[0]]
    for index in range(1, min(len(words), most)):
        if not is_name(words[index]) or words[index] in words[first_used:index]:
            raise BadText(at, index)
    check_length(at, words, least, most)


def check_length(at, words, least, most):
    """Refuse the first word too many, and a line in which a word is missing."""
    if len(words) > most:
        raise BadText(at, most)
    if len(words) < least:
        raise BadText(at, len(words))
