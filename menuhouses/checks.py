"""Checks of what callers pass: names, indexes, things and menus."""

from menuhouses.errors import InvalidIndex, InvalidMenu, InvalidRow, InvalidTaken, InvalidThings, UnknownThing
from menuhouses.limits import MOST_THINGS

LETTERS = "abcdefghijklmnopqrstuvwxyz"
DIGITS = "0123456789"
LONGEST_NAME = 8


def is_index(value, many):
    """Whether the value is an integer from 0 to many less 1."""
    # For Python True and False are ints, for the document they are no integers.
    return isinstance(value, int) and not isinstance(value, bool) and 0 <= value < many


def is_name(value):
    """Whether the value is a name."""
    if not isinstance(value, str) or not 1 <= len(value) <= LONGEST_NAME:
        return False
    return value[0] in LETTERS and all([sign in LETTERS or sign in DIGITS for sign in value])


def is_filled_tuple(value):
    """Whether the value is a tuple of one or more values."""
    return isinstance(value, tuple) and len(value) > 0


def is_one_of(value, things):
    """Whether the value is one of the things."""
    # Only strings are compared: a value of another kind could claim to equal a thing.
    return isinstance(value, str) and value in things


def first_wrong_in_row(row):
    """The index of the first value that cannot stand in the row of a ranking, None if each can."""
    for at, name in enumerate(row):
        if at >= MOST_THINGS or not is_name(name) or name in row[:at]:
            return at
    return None


def first_wrong_of_names(names, most=MOST_THINGS):
    """The index of the first value that is no name, not ascending or one more than the most, None if there is none."""
    for at, name in enumerate(names):
        if at >= most or not is_name(name):
            return at
        if at > 0 and name <= names[at - 1]:
            return at
    return None


def first_wrong_on_menu(menu, things):
    """The index of the first value that is none of the things or not ascending, None if there is none."""
    for at, thing in enumerate(menu):
        if not is_one_of(thing, things):
            return at
        if at > 0 and thing <= menu[at - 1]:
            return at
    return None


def is_menu(value, things):
    """Whether the value is an ascending tuple of one or more of the things."""
    return is_filled_tuple(value) and first_wrong_on_menu(value, things) is None


def check_row(row):
    """Raises InvalidRow if this is not the row of a ranking."""
    if not is_filled_tuple(row):
        raise InvalidRow(None)
    wrong = first_wrong_in_row(row)
    if wrong is not None:
        raise InvalidRow(wrong)


def check_things(things, most=MOST_THINGS):
    """Raises InvalidThings if this is no ascending tuple of names, of one or more and not more than the most."""
    if not is_filled_tuple(things):
        raise InvalidThings(None)
    wrong = first_wrong_of_names(things, most)
    if wrong is not None:
        raise InvalidThings(wrong)


def check_names_of_menu(menu):
    """Raises InvalidMenu if this is no ascending tuple of one to ten names, whatever they name."""
    if not is_filled_tuple(menu):
        raise InvalidMenu(None)
    wrong = first_wrong_of_names(menu)
    if wrong is not None:
        raise InvalidMenu(wrong)


def check_menu(menu, things):
    """Raises InvalidMenu if this is no menu of the things."""
    if not is_filled_tuple(menu):
        raise InvalidMenu(None)
    wrong = first_wrong_on_menu(menu, things)
    if wrong is not None:
        raise InvalidMenu(wrong)


def check_taken(taken, menu):
    """Raises InvalidTaken if this is no ascending tuple of one or more things on the menu."""
    if not is_filled_tuple(taken):
        raise InvalidTaken(None)
    wrong = first_wrong_on_menu(taken, menu)
    if wrong is not None:
        raise InvalidTaken(wrong)


def check_index(index, many):
    """Raises InvalidIndex if this is no integer from 0 to many less 1."""
    if not is_index(index, many):
        raise InvalidIndex(index)


def check_thing(thing, things):
    """Raises UnknownThing if this is none of the things."""
    if not is_one_of(thing, things):
        raise UnknownThing(thing)
