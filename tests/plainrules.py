"""Rules of thumb played by the words of the document, deed by deed, with numbers reckoned anew at each deed."""

from itertools import chain, cycle, islice

from loopstow.errors import Crowded
from plainly import needed_now

COUNTS = (0, 1)


def ways_on(program, part, at):
    """The rows of deeds that may follow from a place on, for one or no further round of each loop."""
    loop, second = program.loop or (), program.second or ()
    for n in COUNTS if program.loop is not None else (0,):
        for m in COUNTS if program.second is not None else (0,):
            rest = {
                "ahead": (*program.ahead[at:], *loop * n, *program.between, *second * m, *program.behind),
                "loop": (*loop[at:], *loop * n, *program.between, *second * m, *program.behind),
                "between": (*program.between[at:], *second * m, *program.behind),
                "second": (*second[at:], *second * m, *program.behind),
                "behind": program.behind[at:],
            }
            yield rest[part]


def wanted(program, part, at):
    return {name for deeds in ways_on(program, part, at) for name in needed_now(deeds, program.results, 0)}


def seen_from(program, part, at):
    """The deeds that a rule sees, without end where a loop goes on for ever."""
    deeds = {"ahead": program.ahead, "loop": program.loop, "between": program.between, "second": program.second,
             "behind": program.behind}[part]
    loop = {"ahead": program.loop, "loop": program.loop, "between": program.second, "second": program.second}.get(part)
    return chain(deeds[at + 1:], cycle(loop or ()))


class Play:
    """A play of a task by a rule."""

    def __init__(self, task, words, pins):
        self.task, self.words, self.pins = task, words, pins
        self.touched = {}
        self.stored = set(task.program.given)
        self.clock = 0
        self.rows = []

    def touch(self, name):
        self.clock += 1
        self.touched[name] = self.clock

    def number(self, word, name, part, at):
        program = self.task.program
        if word == "dead":
            return int(name not in wanted(program, part, at))
        if word == "far":
            for later, deed in enumerate(islice(seen_from(program, part, at), 300), 1):
                if name in deed.uses:
                    return later
                if name == deed.makes:
                    return 1000
            return 1000
        if word == "old":
            return sum(1 for time in self.touched.values() if time > self.touched[name])
        if word == "clean":
            return int(name in self.stored or name in program.again or name not in wanted(program, part, at))
        return -self.task.prices.load_of(name)

    def free(self, part, at, names):
        row = self.rows[-1]
        if len(self.touched) < self.task.slots:
            return
        keys = {
            name: tuple(self.number(word, name, part, at) for word in self.words)
            for name in self.touched if name not in names and name not in self.pins
        }
        if not keys:
            raise Crowded((part, at))
        best = min(name for name in keys if keys[name] == max(keys.values()))
        again = self.task.program.again
        if best in wanted(self.task.program, part, at) and best not in self.stored and best not in again:
            row.append(f"store {best}")
            self.stored.add(best)
        row.append(f"forget {best}")
        del self.touched[best]

    def bring(self, name, part, at, names):
        self.free(part, at, names)
        again = self.task.program.again
        if name not in self.stored or name in again and again[name] < self.task.prices.load_of(name):
            self.rows[-1].append(f"again {name}")
        else:
            self.rows[-1].append(f"load {name}")
        self.touch(name)

    def part(self, part, deeds):
        for at, deed in enumerate(deeds):
            self.rows.append([])
            for name in deed.uses:
                if name not in self.touched:
                    self.bring(name, part, at, deed.names)
            if deed.makes is not None and deed.makes not in self.touched:
                self.free(part, at, deed.names)
            for name in deed.uses:
                self.touch(name)
            if deed.makes is not None:
                self.touch(deed.makes)
                self.stored.discard(deed.makes)

    def end(self):
        self.rows.append([])
        at = len(self.task.program.behind)
        for name in sorted(self.task.program.results):
            if name not in self.stored:
                if name not in self.touched:
                    self.bring(name, "behind", at, ())
                self.rows[-1].append(f"store {name}")
                self.stored.add(name)

    def state(self):
        return tuple(sorted(self.touched, key=self.touched.get)), tuple(sorted(self.stored))


def crowded_deed(task, pins):
    """The place of the first deed at which there are too many names, or None."""
    program = task.program
    for part in ("ahead", "loop", "between", "second", "behind"):
        for at, deed in enumerate(getattr(program, part) or ()):
            if len(set(pins) | set(deed.uses) | {deed.makes} - {None}) > task.slots:
                return part, at
    return None


def plain_rule(task, words, pins=(), n=0, m=0):
    """The plan of a rule as texts; Crowded as the document says."""
    place = crowded_deed(task, pins)
    if place:
        raise Crowded(place)
    program = task.program
    play = Play(task, words, pins)
    play.part("ahead", program.ahead)
    for _ in range(n):
        play.part("loop", program.loop)
    play.part("between", program.between)
    for _ in range(m):
        play.part("second", program.second)
    play.part("behind", program.behind)
    play.end()
    return play.rows


def head_states(task, words, pins, most):
    """The states at the heads of the rounds 0 to most."""
    play = Play(task, words, pins)
    play.part("ahead", task.program.ahead)
    states = [play.state()]
    for _ in range(most):
        play.part("loop", task.program.loop)
        states.append(play.state())
    return states
