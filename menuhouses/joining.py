"""Which rankings may join: they are gone through by the menus that can be left while they are put.

The crests of a house are told here, as `crest_masks`, by a row of masks for each
thing. The *steps* are a dict: for each menu that can be left while things are put
one by one, the best first, the indexes of those that may come next.
"""

from menuhouses.masks import greatest, indexes_of, is_covered, mask_of_all
from menuhouses.pairing import chains


def takes(crest_masks, menu, at):
    """Whether a house with these crests takes the thing with this index, which is on the menu, from it."""
    return is_covered(menu - (1 << at), crest_masks[at])


def indexes_taken(crest_masks, menu):
    """The indexes of all things that a house with these crests takes from the menu, ascending."""
    return [at for at in indexes_of(menu) if takes(crest_masks, menu, at)]


def joining_steps(houses):
    """The steps by which all rankings come that may join each of the houses, of which the crests are passed."""
    steps = {}
    waiting = [mask_of_all(len(houses[0]))]
    while waiting:
        left = waiting.pop()
        if left not in steps:
            steps[left] = [at for at in indexes_of(left) if all([takes(masks, left, at) for masks in houses])]
            waiting.extend([left - (1 << at) for at in steps[left]])
    return steps


def dead_end(steps):
    """The least menu that can be left and of which nothing may come, None if there is none."""
    for left in sorted(list(steps)):
        if left > 0 and not steps[left]:
            return left
    return None


def ways_to_put(steps):
    """For each menu that can be left, in how many ways its things can be put."""
    counts = {0: 1}
    for left in sorted(list(steps)):
        if left > 0:
            counts[left] = sum([counts[left - (1 << at)] for at in steps[left]])
    return counts


def rows_ahead(steps):
    """For each menu that can be left, one row of indexes that can be put ahead of it."""
    lefts = sorted(list(steps), reverse=True)
    ahead = {lefts[0]: ()}
    for left in lefts:
        for at in steps[left]:
            ahead[left - (1 << at)] = ahead[left] + (at,)
    return ahead


def crests_of_steps(steps):
    """The crests of the house of all rankings that come by the steps, as pairs of an index and a mask."""
    masks = [[] for _ in indexes_of(max(list(steps)))]
    for left in steps:
        for at in steps[left]:
            masks[at].append(left - (1 << at))
    return [(at, mask) for at, row in enumerate(masks) for mask in greatest(row)]


def row_with_crests(crests, ahead, steps):
    """A row that comes by the steps and has these crests, of which the sets lie in one another, the greatest first."""
    row = ()
    for at, mask in crests:
        row = row + tuple([other for other in ahead[mask + (1 << at)] if other not in row]) + (at,)
    left = crests[-1][1]
    while left > 0:
        at = steps[left][0]
        row = row + (at,)
        left = left - (1 << at)
    return row


def fewest_rows(steps):
    """As few rows as can be, of which the house is alike to that of all rankings that come by the steps."""
    crests = crests_of_steps(steps)
    ahead = rows_ahead(steps)
    paired = chains([mask for _, mask in crests])
    return [row_with_crests([crests[at] for at in chain], ahead, steps) for chain in paired]
