"""The errors of the program.

Each one keeps the values that it is made of, whatever they are. No message is
made of these, as there are values that cannot be shown.
"""


class WrongValue(ValueError):
    """A value that was passed is not of the form that is asked for."""


class InvalidText(WrongValue):
    """There is nothing with this text."""

    def __init__(self, given):
        self.given = given


class InvalidMarks(WrongValue):
    """These are not the marks of a look at the menu."""

    def __init__(self, given):
        self.given = given


class InvalidIndex(WrongValue):
    """Nothing has this index."""

    def __init__(self, given):
        self.given = given


class InvalidWord(WrongValue):
    """This is none of the words of promises."""

    def __init__(self, given):
        self.given = given


class NotARanking(WrongValue):
    """This is no Ranking."""

    def __init__(self, given):
        self.given = given


class NotAHouse(WrongValue):
    """This is no House."""

    def __init__(self, given):
        self.given = given


class NotALook(WrongValue):
    """This is no Look."""

    def __init__(self, given):
        self.given = given


class NotLooks(WrongValue):
    """These are no Looks."""

    def __init__(self, given):
        self.given = given


class OtherThings(WrongValue):
    """These are not the things that are asked for."""

    def __init__(self, given):
        self.given = given


class InvalidRow(WrongValue):
    """At this index the row of a ranking is not valid."""

    def __init__(self, index):
        self.index = index


class InvalidMenu(WrongValue):
    """At this index the menu is not valid."""

    def __init__(self, index):
        self.index = index


class InvalidThings(WrongValue):
    """At this index the things are not valid."""

    def __init__(self, index):
        self.index = index


class InvalidTaken(WrongValue):
    """At this index the things taken are not valid."""

    def __init__(self, index):
        self.index = index


class InvalidRankings(WrongValue):
    """At this index the rankings of a house are not valid."""

    def __init__(self, index):
        self.index = index


class InvalidLooks(WrongValue):
    """At this index the looks are not valid."""

    def __init__(self, index):
        self.index = index


class InvalidTable(WrongValue):
    """At this index the table is not valid."""

    def __init__(self, index):
        self.index = index


class WrongName(LookupError):
    """A name that was passed names nothing here."""


class UnknownThing(WrongName):
    """This is none of the things that are meant."""

    def __init__(self, given):
        self.given = given


class NoAnswer(ArithmeticError):
    """What was passed is valid, but there is no such result."""


class TooMany(NoAnswer):
    """There are this many, which is more than can be."""

    def __init__(self, number):
        self.number = number


class NoHouse(NoAnswer):
    """From this menu the two houses take nothing in common."""

    def __init__(self, menu):
        self.menu = menu


class NoTable(NoAnswer):
    """By these two menus no house has the table."""

    def __init__(self, first, second):
        self.first = first
        self.second = second


class Clash(NoAnswer):
    """The looks up to this one do not fit."""

    def __init__(self, index):
        self.index = index


class Broken(NoAnswer):
    """The promise with this index would not be so."""

    def __init__(self, index):
        self.index = index


class NothingToUndo(NoAnswer):
    """No change is left that can be taken back."""
