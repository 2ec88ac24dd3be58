"""The lines that a desk is told: which words they have."""

from loopstow.checks import DIGITS, is_digits
from loopstow.errors import BadLine
from loopstow.partchecks import PARTS
from loopstow.rules import Rule

# For each first word the kinds of those behind it. A kind with a sign stands at the end: `?` may be left out, `+` may
# be said again; a text is the rest of the line.
FORMS = {
    "program": ("text",),
    "slots": ("digit",),
    "prices": ("digit", "digit"),
    "show": (),
    "row": (),
    "pace": (),
    "turn": (),
    "price": ("number", "number?"),
    "least": ("number",),
    "play": ("number", "text"),
    "moves": ("number", "number"),
    "rule": ("word+",),
    "beaten": ("word+",),
    "needed": ("part", "number"),
}
MOST_DIGITS = 30


def words_of_line(line):
    """The words of a line, of which the last one may be a text; a line with another form is refused."""
    if not isinstance(line, str):
        raise BadLine(0)
    first = line.split(" ")[0]
    if first not in FORMS:
        raise BadLine(0)
    form = FORMS[first]
    words = line.split(" ", len(form)) if "text" in form else line.split(" ")
    for index in range(1, len(words)):
        if not fits(words[index], kind_at(form, index - 1)):
            raise BadLine(index)
    if len(words) <= len([kind for kind in form if not kind.endswith("?")]):
        raise BadLine(len(words))
    return words


def kind_at(form, index):
    """The kind of the word with an index in a form, or the empty text if there is none."""
    if index < len(form):
        return form[index].strip("?+")
    return form[-1].strip("+") if form and form[-1].endswith("+") else ""


def fits(word, kind):
    """Whether a word is one of a kind."""
    if kind == "number":
        return is_digits(word) and len(word) <= MOST_DIGITS and (word == "0" or word[0] != "0")
    if kind == "digit":
        return len(word) == 1 and word in DIGITS
    if kind == "word":
        return word in Rule.WORDS
    if kind == "part":
        return word in PARTS
    return kind == "text"
