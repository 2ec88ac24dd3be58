"""Programs: the deeds of up to two loops and of what lies around them."""

from loopstow.checks import is_count, is_name
from loopstow.deeds import renamed_deed
from loopstow.errors import BadName, BadNumber, BadPlace, NoLoop, TooMany, Twice, TwoLoops
from loopstow.parsing import program_of_text
from loopstow.partchecks import (
    MOST_AHEAD, MOST_IN_PART, PARTS, all_names, check_parts, check_sizes, check_told_names, check_values,
)
from loopstow.texts import show_program


class Program:
    """A program: up to five parts of deeds, given and again names, and results."""

    def __init__(self, ahead=(), loop=None, between=(), second=None, behind=(), *, given=(), again=None, results=()):
        parts = {
            "ahead": tuple(ahead),
            "loop": None if loop is None else tuple(loop),
            "between": tuple(between),
            "second": None if second is None else tuple(second),
            "behind": tuple(behind),
        }
        prices = {} if again is None else dict(again)
        check_parts(parts)
        check_sizes(parts)
        check_told_names(given, prices, results)
        self._names = all_names(parts, given, prices, results)
        check_values(parts, given, prices, results)
        self._parts = parts
        self._given = tuple(sorted(given, key=str))
        self._again = prices
        self._results = tuple(sorted(results, key=str))

    @property
    def ahead(self):
        """The deeds ahead of the loop, or all deeds of a straight program."""
        return self._parts["ahead"]

    @property
    def loop(self):
        """The deeds of the first loop, or None."""
        return self._parts["loop"]

    @property
    def between(self):
        """The deeds between the loops."""
        return self._parts["between"]

    @property
    def second(self):
        """The deeds of the second loop, or None."""
        return self._parts["second"]

    @property
    def behind(self):
        """The deeds behind the last loop."""
        return self._parts["behind"]

    @property
    def given(self):
        """The names that lie in the store at the beginning, ascending."""
        return self._given

    @property
    def again(self):
        """The prices of the names that can be made again from nothing."""
        return dict(self._again)

    @property
    def results(self):
        """The names that must lie in the store at the end, ascending."""
        return self._results

    @property
    def names(self):
        """All names, ascending."""
        return self._names

    @property
    def loops(self):
        """The number of loops."""
        return len([part for part in ("loop", "second") if self._parts[part] is not None])

    @property
    def room(self):
        """The least number of slots with which all deeds can be done, at least 1."""
        return max([int(deed.room) for part in PARTS for deed in self._parts[part] or ()], default=1)

    def deed_at(self, place):
        """The deed at a place."""
        if not self.has_place(place) or place[1] == len(self.deeds_of(place[0])):
            raise BadPlace(place)
        return self.deeds_of(place[0])[place[1]]

    def deeds_of(self, part):
        """The deeds of a part, told by its word, or None."""
        return self._parts[part]

    def has_place(self, value):
        """Whether any value is a place of the program."""
        if not isinstance(value, tuple) or len(value) != 2:
            return False
        part, index = value
        if not isinstance(part, str) or part not in PARTS or not is_count(index):
            return False
        return self._parts[part] is not None and index <= len(self._parts[part])

    def places(self):
        """All places, part by part, each part with its end."""
        for part in PARTS:
            if self._parts[part] is not None:
                for index in range(len(self._parts[part]) + 1):
                    yield part, index

    def straight(self, n=0, m=0):
        """The straight program of n rounds of the first loop and m of the second one."""
        for rounds in (n, m):
            if not is_count(rounds):
                raise BadNumber(rounds)
        if n > 0 and self.loop is None or m > 0 and self.second is None:
            raise NoLoop()
        deeds = [
            *self.ahead,
            *repeated(self.loop or (), n, MOST_AHEAD),
            *self.between,
            *repeated(self.second or (), m, MOST_AHEAD),
            *self.behind,
        ]
        return Program(deeds, given=self._given, again=self._again, results=self._results)

    def __pow__(self, other):
        if not is_count(other) or other == 0:
            raise BadNumber(other)
        check_one_loop(self)
        return with_parts(self, self.ahead, repeated(self.loop, other, MOST_IN_PART), self.behind)

    def unrolled(self, j):
        """The program with j rounds put behind the deeds ahead."""
        if not is_count(j):
            raise BadNumber(j)
        check_one_loop(self)
        return with_parts(self, (*self.ahead, *repeated(self.loop, j, MOST_AHEAD)), self.loop, self.behind)

    def turned(self, j):
        """The program whose loop begins at its deed j, with the rest of a round on either side."""
        if not is_count(j) or self.loop is not None and j > len(self.loop):
            raise BadNumber(j)
        check_one_loop(self)
        front, rest = self.loop[:j], self.loop[j:]
        return with_parts(self, self.ahead + front, rest + front, rest + self.behind)

    def renamed(self, names):
        """The program with other names, told by a dict; a name that it lacks stays."""
        for name in sorted(names, key=str):
            if not is_name(names[name]):
                raise BadName(names[name])
        renames = {name: names.get(name, name) for name in self._names}
        check_renames(renames)
        parts = {part: renamed_part(self._parts[part], renames) for part in PARTS}
        return Program(
            parts["ahead"], parts["loop"], parts["between"], parts["second"], parts["behind"],
            given=[renames[name] for name in self._given],
            again={renames[name]: self._again[name] for name in self._again},
            results=[renames[name] for name in self._results],
        )

    @classmethod
    def read(cls, text):
        """The program with this text."""
        parts, given, again, results = program_of_text(text)
        return cls(
            parts["ahead"], parts["loop"], parts["between"], parts["second"], parts["behind"],
            given=given, again=again, results=results,
        )

    def __eq__(self, other):
        return (
            isinstance(other, Program) and self._parts == other._parts and self._given == other._given
            and self._again == other._again and self._results == other._results
        )

    def __str__(self):
        return str(show_program(self))


def check_one_loop(program):
    """Refuse a program that does not have just one loop."""
    if program.loop is None:
        raise NoLoop()
    if program.second is not None:
        raise TwoLoops()


def repeated(deeds, rounds, most):
    """The deeds of some rounds; a loop without deeds may have any number of them."""
    if not deeds:
        return ()
    # Counted first: the number of rounds may have many figures.
    if rounds * len(deeds) > most:
        raise TooMany(most)
    return deeds * rounds


def with_parts(program, ahead, loop, behind):
    """The program with one loop that has other parts."""
    return Program(
        ahead, loop, behind=behind, given=program.given, again=program.again, results=program.results,
    )


def check_renames(renames):
    """Refuse the least name that two names would get."""
    taken = sorted(list(renames.values()), key=str)
    for index in range(1, len(taken)):
        if taken[index] == taken[index - 1]:
            raise Twice(taken[index])


def renamed_part(deeds, renames):
    """The deeds of a part with other names; None stays."""
    if deeds is None:
        return None
    return [renamed_deed(deed, renames) for deed in deeds]
