"""Comparing houses: crests, fewest people, parting menus, and the rankings that may join."""

from menuhouses.checks import check_index, check_thing
from menuhouses.houses import House, check_house, check_other_house
from menuhouses.joining import indexes_taken, joining_steps, takes, ways_to_put
from menuhouses.masks import index_rows, indexes_of, mask_of_all, names_of
from menuhouses.pairing import loose_sets
from menuhouses.rankings import Ranking


def pairs_of_crests(house):
    """The crests as pairs of the index of a thing and the mask of a set."""
    return [(at, mask) for at, masks in enumerate(house.crest_masks) for mask in masks]


def with_names(pairs, things):
    """Pairs of an index and a mask as an ascending tuple of pairs of a thing and a tuple of things."""
    return tuple(sorted([(things[at], names_of(indexes_of(mask), things)) for at, mask in pairs]))


def crests(house):
    """The crests of the house, ascending."""
    check_house(house)
    return with_names(pairs_of_crests(house), house.things)


def loose_crests(house):
    """As many crests as can be loose together, ascending."""
    check_house(house)
    pairs = pairs_of_crests(house)
    loose = loose_sets([mask for _, mask in pairs])
    return with_names([pairs[at] for at in loose], house.things)


def fewest_house(house):
    """A house that is alike and has as few rankings as can be."""
    check_house(house)
    # The rankings that may join the house twice over are just those that may join it.
    return house & house


def is_needless(ranking, house):
    """Whether the house without this one of its rankings is alike."""
    others = [other for other in house.rankings if other != ranking]
    return len(others) > 0 and ranking in House(*others)


def needless(house):
    """The rankings without which, each alone, the house of the others is alike."""
    check_house(house)
    return tuple([ranking for ranking in house.rankings if is_needless(ranking, house)])


def takes_more(one, other, menu):
    """Whether from the menu, told by its mask, the one house takes a thing that the other does not."""
    taken = indexes_taken(one.crest_masks, menu)
    return any([not takes(other.crest_masks, menu, at) for at in taken])


def parting_menu(one, other):
    """The smallest menu from which the one takes a thing that the other does not, None if there is none."""
    check_house(one)
    check_other_house(other, one.things)
    if one.within(other):
        return None
    # As it is not within the other one, some menu does part them.
    for row in index_rows(len(one.things)):
        if takes_more(one, other, sum([1 << at for at in row])):
            return names_of(row, one.things)


def joiners(house):
    """The number of the rankings that may join."""
    check_house(house)
    return ways_to_put(joining_steps([house.crest_masks]))[mask_of_all(len(house.things))]


def joiner(house, index):
    """The ranking with this index among those that may join, in ascending order of their rows."""
    check_house(house)
    steps = joining_steps([house.crest_masks])
    counts = ways_to_put(steps)
    left = mask_of_all(len(house.things))
    check_index(index, counts[left])
    row, ahead = (), index
    while left > 0:
        for at in steps[left]:
            many = counts[left - (1 << at)]
            if ahead < many:
                break
            ahead = ahead - many
        row = row + (at,)
        left = left - (1 << at)
    return Ranking(names_of(row, house.things))


def all_joiners(house, *, best=None):
    """Yields the rankings that may join, ascending: all of them, or those in which the best one is the first."""
    check_house(house)
    things = house.things
    if best is not None:
        check_thing(best, things)
    steps = joining_steps([house.crest_masks])
    waiting = [((), mask_of_all(len(things)))]
    while waiting:
        row, left = waiting.pop()
        if left == 0:
            yield Ranking(names_of(row, things))
        # What comes to the list last leaves it first; and each step leads to some ranking.
        for at in steps[left][::-1]:
            if row or best is None or things[at] == best:
                waiting.append((row + (at,), left - (1 << at)))
