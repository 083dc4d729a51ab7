"""The errors that the package raises.

The attribute of an error has the name of its parameter and carries just what was passed.
"""


class LineError(Exception):
    """The base class of all errors of the package."""


class BadPlan(LineError):
    """The value is not a plan."""

    def __init__(self, thing):
        self.thing = thing


class BadText(LineError):
    """The line with this number, from 1, is the first wrong one; 0 if the value is not a string."""

    def __init__(self, line):
        self.line = line


class BadChecked(LineError):
    """The plan has a fault."""

    def __init__(self, thing):
        self.thing = thing


class BadEnd(LineError):
    """The value is not an end of a stretch of the plan."""

    def __init__(self, thing):
        self.thing = thing


class BadRoute(LineError):
    """The value is not a route of the plan."""

    def __init__(self, thing):
        self.thing = thing


class BadLies(LineError):
    """The value is not lies of the points of the plan."""

    def __init__(self, thing):
        self.thing = thing


class BadStanding(LineError):
    """The value is not a standing of the plan."""

    def __init__(self, thing):
        self.thing = thing


class BadNames(LineError):
    """The value is not a tuple of different names."""

    def __init__(self, thing):
        self.thing = thing


class BadMove(LineError):
    """The value is not a possible move."""

    def __init__(self, thing):
        self.thing = thing


class BadField(LineError):
    """The value is not the elements of the plan."""

    def __init__(self, thing):
        self.thing = thing


class BadTaken(LineError):
    """The value is not an ascending tuple of names of stretches."""

    def __init__(self, thing):
        self.thing = thing


class BadLetter(LineError):
    """The value is not a letter to an element of the plan."""

    def __init__(self, thing):
        self.thing = thing


class BadName(LineError):
    """The value is not the name of an element that can do this."""

    def __init__(self, thing):
        self.thing = thing


class BadJourneys(LineError):
    """The value is not journeys in the plan."""

    def __init__(self, thing):
        self.thing = thing


class BadCount(LineError):
    """The value is not a count of the journeys."""

    def __init__(self, thing):
        self.thing = thing


class BadTrain(LineError):
    """The value is not the name of a train of the journeys."""

    def __init__(self, thing):
        self.thing = thing


class BadBook(LineError):
    """The value is not a book of the journeys."""

    def __init__(self, thing):
        self.thing = thing


class BadOrder(LineError):
    """The value is not an order of a train of the journeys."""

    def __init__(self, thing):
        self.thing = thing


class BadAnswer(LineError):
    """The value is not an answer of an element of the plan."""

    def __init__(self, thing):
        self.thing = thing


class BadLog(LineError):
    """The value is not a log of the journeys."""

    def __init__(self, thing):
        self.thing = thing


class BadDeeds(LineError):
    """The value is not a tuple of rows to write and letters to send."""

    def __init__(self, thing):
        self.thing = thing


class BadDeed(LineError):
    """The value is not a deed that can be done."""

    def __init__(self, thing):
        self.thing = thing


class BadChoices(LineError):
    """The value is not a tuple of integers."""

    def __init__(self, thing):
        self.thing = thing


class BadWorld(LineError):
    """The value is not a world, or it has had an accident."""

    def __init__(self, thing):
        self.thing = thing


class BadWishes(LineError):
    """The value is not a tuple of wishes of the journeys."""

    def __init__(self, thing):
        self.thing = thing


class BadDay(LineError):
    """The value is not a day of the journeys."""

    def __init__(self, thing):
        self.thing = thing


class BadPair(LineError):
    """The two routes have the same start, or the same stretch in front of them."""

    def __init__(self, thing):
        self.thing = thing
