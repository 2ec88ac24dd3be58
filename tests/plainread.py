"""Texts of programs and plans read word by word, and texts that are spoiled."""

import re

NAME = re.compile(r"[a-z]{1,6}\Z")
DEEDS = ("use", "make", "do")
# Which first words may come in each stage, and to which stage they lead.
STAGES = {
    "given": {"given": "again", "again": "again", "results": "deeds", "loop": "first", "deed": "deeds"},
    "again": {"again": "again", "results": "deeds", "loop": "first", "deed": "deeds"},
    "deeds": {"loop": "first", "deed": "deeds"},
    "first": {"end": "between", "deed": "first"},
    "between": {"second": "other", "deed": "between"},
    "other": {"end": "behind", "deed": "other"},
    "behind": {"deed": "behind"},
}


def program_fault(text):
    """The line and the word of the first word that cannot stand in the text of a program, or None."""
    if not isinstance(text, str):
        return 0, 0
    stage, last = "given", ""
    lines = text.split("\n") if text else []
    for at, line in enumerate(lines):
        words = line.split(" ")
        first = "deed" if words[0] in DEEDS else words[0]
        if first not in STAGES[stage]:
            return at, 0
        stage = STAGES[stage][first]
        for index in range(1, len(words) + 1):
            word = words[index] if index < len(words) else None
            if not program_word_fits(words[0], words[1:index], word, last):
                return at, index
        last = words[1] if first == "again" else last
    return (len(lines), 0) if stage in ("first", "other") else None


def program_word_fits(first, ahead, word, last):
    """Whether a word, or the end of the line for None, may stand behind these words of its line."""
    count = len(ahead)
    if first in ("given", "results"):
        return count > 0 if word is None else bool(NAME.match(word)) and (not ahead or word > ahead[-1])
    if first == "again":
        if word is None:
            return count == 2
        return [bool(NAME.match(word)) and word > last, word in tuple("0123456789"), False][min(count, 2)]
    if first == "make":
        return count == 1 if word is None else count == 0 and bool(NAME.match(word))
    if first in ("use", "do"):
        used = ahead if first == "use" else ahead[1:]
        if word is None:
            return len(used) > 0
        return len(used) < 3 and bool(NAME.match(word)) and word not in used
    return word is None


def plan_fault(text):
    """The line and the word of the first word that cannot stand in the text of a plan, or None."""
    if not isinstance(text, str):
        return 0, 0
    for at, line in enumerate(text.split("\n")):
        words = line.split(" ")
        # What may come next: a first word, the word of a move, a name, or nothing.
        wanted = "first"
        for index, word in enumerate(words):
            if wanted == "first" and word == "-":
                wanted = "nothing"
            elif wanted in ("first", "move") and word in ("load", "again", "store", "forget"):
                wanted = "name"
            elif wanted == "name" and re.match(r"[a-z]{1,6},?\Z", word):
                wanted = "move" if word[-1] == "," else "nothing"
            else:
                return at, index
        if wanted != "nothing":
            return at, len(words)
    return None


def spoiled_text(source, text):
    """The text with a word or line left out, doubled or exchanged, or with another sign."""
    lines = [line.split(" ") for line in text.split("\n")]
    at = source.randrange(len(lines))
    index = source.randrange(len(lines[at]))
    word = lines[at][index]
    kind = source.randrange(10)
    if kind == 0:
        del lines[at][index]
    elif kind == 1:
        lines[at].insert(index, word)
    elif kind == 2:
        other = source.randrange(len(lines[at]))
        lines[at][index], lines[at][other] = lines[at][other], word
    elif kind == 3:
        lines[at][index] = source.choice([
            "a", "b", "x", "loop", "end", "second", "use", "make", "do", "given", "again", "results", "load", "store",
            "forget", "-", "0", "10", "A", "abcdefg", "", ",", "a,", "b,,",
        ])
    elif kind == 4:
        sign = source.randrange(len(word) + 1)
        lines[at][index] = word[:sign] + source.choice(" ,-aZ0\n\t;\u00e9") + word[sign + source.randrange(2):]
    elif kind == 5:
        del lines[at]
    elif kind == 6:
        lines.insert(at, list(lines[source.randrange(len(lines))]))
    elif kind == 7:
        other = source.randrange(len(lines))
        lines[at], lines[other] = lines[other], lines[at]
    elif kind == 8:
        lines[at].append(source.choice(["", "a", "b", ",", "-", "use", "load a"]))
    else:
        lines.append(source.choice([[""], ["end"], ["-"], ["use", "a"], ["second"], ["loop"]]))
    return "\n".join(" ".join(words) for words in lines)
