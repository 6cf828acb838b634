"""Tables: what a house of up to five things takes from each menu, there and back."""

from menuhouses.checks import check_things, is_menu
from menuhouses.errors import InvalidTable, NoTable, TooMany
from menuhouses.houses import check_house, house_of_rows
from menuhouses.joining import fewest_rows, joining_steps
from menuhouses.limits import TABLE_THINGS
from menuhouses.masks import greatest, indexes_of, mask_of, mask_of_all, names_of


def all_menus(things):
    """All menus of the things, ascending."""
    return sorted([names_of(indexes_of(mask), things) for mask in range(1, mask_of_all(len(things)) + 1)])


def is_entry(value, menu):
    """Whether the value is a pair of this menu and an ascending tuple of one or more things on it."""
    if not isinstance(value, tuple) or len(value) != 2:
        return False
    # The only menu of these things with as many things as they are is theirs.
    return is_menu(value[0], menu) and len(value[0]) == len(menu) and is_menu(value[1], menu)


def check_table(table, things):
    """Raises InvalidTable if this does not tell for each menu, ascending, what is taken from it."""
    if not isinstance(table, tuple):
        raise InvalidTable(None)
    menus = all_menus(things)
    for at, entry in enumerate(table):
        if at >= len(menus) or not is_entry(entry, menus[at]):
            raise InvalidTable(at)
    if len(table) < len(menus):
        raise InvalidTable(len(table))


def is_fault(taken, first, second):
    """Whether no house has this table by these two menus, the second one a part of the first one."""
    on_second = taken[first] & second
    if (on_second & taken[second]) != on_second:
        return True
    return on_second == taken[first] and taken[second] != taken[first]


def first_fault(taken):
    """Two menus by which no house has this table, None if there are none."""
    menus = sorted(list(taken))
    for first in menus:
        for second in menus:
            if (first & second) == second and is_fault(taken, first, second):
                return first, second
    return None


def crest_masks_of(taken, many):
    """The crests of the house with this table, as for each of so many things the masks of their sets."""
    return [greatest([menu - (1 << at) for menu in taken if (taken[menu] >> at) & 1]) for at in range(many)]


def table_of(house):
    """The table of the house: for each menu, ascending, what is taken from it."""
    check_house(house)
    if len(house.things) > TABLE_THINGS:
        raise TooMany(len(house.things))
    return tuple([(menu, house(menu)) for menu in all_menus(house.things)])


def house_of(things, table):
    """A house with this table, with as few rankings as can be."""
    check_things(things, TABLE_THINGS)
    check_table(table, things)
    taken = {mask_of(menu, things): mask_of(some, things) for menu, some in table}
    fault = first_fault(taken)
    if fault is not None:
        first, second = fault
        raise NoTable(names_of(indexes_of(first), things), names_of(indexes_of(second), things))
    steps = joining_steps([crest_masks_of(taken, len(things))])
    return house_of_rows(fewest_rows(steps), things)
