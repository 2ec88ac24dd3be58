"""Rules of thumb, which play a program without looking at the number of rounds."""

from loopstow.checks import check_names, check_unlike
from loopstow.errors import BadRule, Crowded, TooMany
from loopstow.loops import row
from loopstow.players import Player
from loopstow.programs import check_one_loop
from loopstow.rows import Row


class Rule:
    """One or more words, which tell in their order which name gives its slot, and pins, which never do."""

    WORDS = ("dead", "far", "old", "clean", "cheap")

    def __init__(self, *words, pins=()):
        if not words:
            raise BadRule(None)
        for index, word in enumerate(words):
            if not isinstance(word, str) or word not in self.WORDS or word in words[:index]:
                raise BadRule(word)
        check_names(pins)
        check_unlike(pins)
        self._words = words
        self._pins = tuple(pins)

    @property
    def words(self):
        """The words, as they were passed."""
        return self._words

    @property
    def pins(self):
        """The pins, as they were passed."""
        return self._pins

    def __eq__(self, other):
        return isinstance(other, Rule) and self._words == other._words and self._pins == other._pins


def rule_plan(task, rule, n=0, m=0):
    """The plan that a rule plays for some rounds."""
    return played(task, rule, n, m)[0]


def rule_price(task, rule, n=0, m=0):
    """The price of the plan that a rule plays for some rounds."""
    return played(task, rule, n, m)[1]


def rule_row(task, rule, most=120):
    """The row of the prices of the plans that a rule plays for n rounds."""
    check_one_loop(task.program)
    check_crowd(task, rule)
    player = Player(task, rule.words, rule.pins)
    player.play_part("ahead")
    seen = {}
    costs, prices = [], []
    for n in range(most + 1):
        state, cost = player.state(), player.cost
        if state in seen:
            since = seen[state]
            return Row(prices, n - since, cost - costs[since])
        seen[state] = n
        costs.append(cost)
        player.play_part("behind")
        player.finish()
        prices.append(player.cost)
        player.set_back(state, cost)
        player.play_part("loop")
    raise TooMany(most)


def beaten(task, rule, most=120):
    """The least number of rounds for which a rule's price is above the least one, or None."""
    return rule_row(task, rule, most).above(row(task, most))


def played(task, rule, n, m):
    """The plan of a rule for some rounds, and its price."""
    check_crowd(task, rule)
    # Asked for what it refuses.
    task.straight(n, m)
    program = task.program
    player = Player(task, rule.words, rule.pins)
    plan = player.play_part("ahead")
    for part, rounds in (("loop", n), ("between", 1), ("second", m), ("behind", 1)):
        # A loop without deeds may have any number of rounds.
        for _ in range(rounds if program.deeds_of(part) else 0):
            plan.extend(player.play_part(part))
    plan.append(player.finish())
    return plan, player.cost


def check_crowd(task, rule):
    """Refuse the first deed at which the pins and its names are more than the slots."""
    for part, index in task.program.places():
        deeds = task.program.deeds_of(part)
        if index < len(deeds) and len(set([*rule.pins, *deeds[index].names])) > task.slots:
            raise Crowded((part, index))
