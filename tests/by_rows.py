"""What the document defines, told by the rows of rankings alone and without the program: slow and plain."""

from itertools import combinations
from random import Random

from menuhouses.houses import House
from menuhouses.rankings import Ranking
from support import menus_of, rows_of

TEN = tuple("abcdefghij")
THREE = TEN[:3]


def house_of(rows):
    """The House of these rows."""
    return House(*[Ranking(row) for row in rows])


def rows_in(house):
    """The rows of its rankings."""
    return tuple(ranking.row for ranking in house.rankings)


def taken(rows, menu):
    """What a house with these rows takes from the menu."""
    return tuple(sorted({min(menu, key=row.index) for row in rows}))


def table(rows):
    """What a house with these rows takes from each menu."""
    return {menu: taken(rows, menu) for menu in menus_of(tuple(sorted(rows[0])))}


def is_part(one, other):
    """Whether by the first table nothing is taken that is not by the other one."""
    return all(set(one[menu]) <= set(other[menu]) for menu in one)


def joining(tables):
    """All rows that may join each of the houses with these tables, ascending."""
    things = max(tables[0], key=len)
    return [row for row in rows_of(things) if all(is_part(table([row]), each) for each in tables)]


def crests(rows):
    """The crests of the house with these rows."""
    found = {(thing, frozenset(row[at + 1:])) for row in rows for at, thing in enumerate(row)}
    greatest = [(thing, each) for thing, each in found
                if not any(thing == other and each < more for other, more in found)]
    return tuple(sorted((thing, tuple(sorted(each))) for thing, each in greatest))


def are_loose(pairs):
    """Whether no two of these crests have sets of which one is a part of, or the same as, the other."""
    sets = [set(each) for _, each in pairs]
    return not any(one <= other or other <= one for one, other in combinations(sets, 2))


def fewest(rows):
    """The fewest rows of a house that is alike to this one, by trying all that may join."""
    whole = marks_of(rows)
    each = [marks_of([row]) for row in joining([table(rows)])]
    many = 1
    while not any(union(some) == whole for some in combinations(each, many)):
        many += 1
    return many


def marks_of(rows):
    """The table as an integer with a bit for each thing on each menu."""
    found, bit = 0, 1
    for menu, some in table(rows).items():
        for thing in menu:
            found |= bit if thing in some else 0
            bit <<= 1
    return found


def union(marks):
    """All bits of these integers."""
    found = 0
    for each in marks:
        found |= each
    return found


def parting(one, other):
    """The smallest menu from which by the first table something is taken that is not by the other, or None."""
    parted = [menu for menu in one if not set(one[menu]) <= set(other[menu])]
    return min(parted, key=lambda menu: (len(menu), menu), default=None)


def all_houses(things):
    """The rows of all houses of these things: of three of them there are 63."""
    rows = rows_of(things)
    return [some for many in range(1, len(rows) + 1) for some in combinations(rows, many)]


def some_rows(many_things, many, seed):
    """Rows of a house, always the same ones for the same numbers."""
    chance = Random(f"{many_things} {many} {seed}")
    rows = [tuple(chance.sample(TEN[:many_things], many_things)) for _ in range(many)]
    return tuple(sorted(set(rows)))


# Houses of four and five things, of few and of many people.
SOME_OF_FOUR = [some_rows(4, many, seed) for many in (1, 2, 3, 4, 5, 6, 8, 12, 24) for seed in range(5)]
SOME_OF_FOUR.append(tuple(sorted(rows_of(TEN[:4]))))
SOME_OF_FIVE = [some_rows(5, many, seed) for many in (1, 2, 3, 5, 9, 24) for seed in range(2)]
OF_FEW = [rows for things in (TEN[:1], TEN[:2]) for rows in all_houses(things)]
