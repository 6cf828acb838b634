"""Looks at up to three things, told by all houses of these things: of three things there are 63."""

from itertools import product

from menuhouses.looks import Look
from by_rows import TEN, all_houses, table
from support import menus_of

TABLES = {many: {rows: table(rows) for rows in all_houses(TEN[:many])} for many in (1, 2, 3)}


def all_looks(things):
    """All looks at menus of these things: of three things there are 56."""
    return [Look(menu, "".join(marks)) for menu in menus_of(things) for marks in product("+-?", repeat=len(menu))
            if set(marks) != {"-"}]


def has(told, look):
    """Whether a house with this table has the look."""
    return all(mark == "?" or (mark == "+") == (thing in told[look.menu])
               for thing, mark in zip(look.menu, look.marks))


HAVE = {many: {str(look): frozenset(rows for rows, told in TABLES[many].items() if has(told, look))
               for look in all_looks(TEN[:many])} for many in (1, 2, 3)}


def houses_that_fit(many, looks):
    """The rows of all houses of this many things that have all these looks."""
    found = frozenset(TABLES[many])
    for look in looks:
        found = found & HAVE[many][str(look)]
    return found


def answer_of(many, houses, menu, thing):
    """How the thing is taken from the menu by these houses, told by their rows."""
    told = {thing in TABLES[many][rows][menu] for rows in houses}
    return "perhaps" if len(told) > 1 else "surely" if True in told else "never"
