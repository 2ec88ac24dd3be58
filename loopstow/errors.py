"""All errors of the package."""


class StowError(ValueError):
    """The base of all errors of the package."""

    def class_name(self):
        """The name of the class of the error."""
        return self.__class__.__name__


class BadName(StowError):
    """A value that is no name."""

    def __init__(self, value):
        self.value = value


class BadDeed(StowError):
    """A value that is not the text of a deed, or a deed that uses no name."""

    def __init__(self, value):
        self.value = value


class BadMove(StowError):
    """A value that is neither a move nor the text of one."""

    def __init__(self, value):
        self.value = value


class BadNumber(StowError):
    """A value that is not a number of the stated kind."""

    def __init__(self, value):
        self.value = value


class BadPrice(StowError):
    """A value that is no price."""

    def __init__(self, value):
        self.value = value


class BadPlace(StowError):
    """A value that is not such a place of the program."""

    def __init__(self, value):
        self.value = value


class BadPart(StowError):
    """A part that cannot stand without another one."""

    def __init__(self, part):
        self.part = part


class BadSlots(StowError):
    """A value that is not a number of slots."""

    def __init__(self, value):
        self.value = value


class BadStanding(StowError):
    """A value that is not the text of a standing."""

    def __init__(self, value):
        self.value = value


class BadRule(StowError):
    """A value that is not a word of a rule, or stands before in it."""

    def __init__(self, value):
        self.value = value


class Twice(StowError):
    """A name that stands twice."""

    def __init__(self, name):
        self.name = name


class TooMany(StowError):
    """More than there may be."""

    def __init__(self, most):
        self.most = most


class Unmade(StowError):
    """A name that is used, or wanted as a result, and may be nowhere."""

    def __init__(self, place, name):
        self.place = place
        self.name = name


class MadeAgain(StowError):
    """A deed that makes an again name."""

    def __init__(self, place, name):
        self.place = place
        self.name = name


class NoRoom(StowError):
    """A deed that wants more slots than there are."""

    def __init__(self, place):
        self.place = place


class Crowded(StowError):
    """A place at which the pins leave too few slots."""

    def __init__(self, place):
        self.place = place


class Barred(StowError):
    """A move or a deed that cannot be done."""

    def __init__(self, word, name):
        self.word = word
        self.name = name


class BadPlan(StowError):
    """A plan that is not right."""

    def __init__(self, at, index, word, name):
        self.at = at
        self.index = index
        self.word = word
        self.name = name


class NoLoop(StowError):
    """A program without the loop that is asked for."""


class HasLoop(StowError):
    """A program with a loop where none may be."""


class OneLoop(StowError):
    """A program with one loop where two are asked for."""


class TwoLoops(StowError):
    """A program with two loops where one is asked for."""


class Finished(StowError):
    """No deed is left."""


class BadText(StowError):
    """A text with a word that cannot stand."""

    def __init__(self, line, word):
        self.line = line
        self.word = word


class BadLine(StowError):
    """A line for the desk with a word that cannot stand."""

    def __init__(self, word):
        self.word = word
