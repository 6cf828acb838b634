"""Pairing sets that lie in one another: each with at most one greater and at most one lesser set.

The sets are unlike masks, told here by their indexes. With as many pairs as can
be, the chains of paired sets are as few as can be, and as many as the most sets
of which none is a part of another.
"""


def greater_sets(masks):
    """For each set, the indexes of those that it is a part of."""
    return [[at for at, other in enumerate(masks) if other != mask and (mask & other) == mask] for mask in masks]


def pairs_back(came, above, start, high):
    """The pairs by which the search came from the set `start` to the set `high`, the last one first."""
    pairs = [(came[high], high)]
    while pairs[-1][0] != start:
        high = above[pairs[-1][0]]
        pairs.append((came[high], high))
    return pairs


def pairs_for(start, greater, above, below):
    """Pairs that give this set a greater one and leave none without that has one; none if that cannot be."""
    came = {}
    waiting = [start]
    while waiting:
        low = waiting.pop()
        for high in greater[low]:
            if high not in came:
                came[high] = low
                if below[high] is None:
                    return pairs_back(came, above, start, high)
                waiting.append(below[high])
    return []


def most_pairs(greater):
    """As many pairs as can be: for each set the greater one that it is paired with, and the lesser one, or None."""
    above = [None] * len(greater)
    below = [None] * len(greater)
    for start in range(len(greater)):
        for low, high in pairs_for(start, greater, above, below):
            above[low] = high
            below[high] = low
    return above, below


def chains(masks):
    """All sets in as few rows as can be, in each of which the sets lie in one another, the greatest first."""
    above, below = most_pairs(greater_sets(masks))
    rows = []
    for top in range(len(masks)):
        if above[top] is None:
            row = [top]
            while below[row[-1]] is not None:
                row.append(below[row[-1]])
            rows.append(row)
    return rows


def loose_sets(masks):
    """As many sets as can be, none of which is a part of another, ascending."""
    greater = greater_sets(masks)
    above, below = most_pairs(greater)
    # Of each chain just one set is reached from a set without a greater one, but not as a greater one itself.
    waiting = [at for at in range(len(masks)) if above[at] is None]
    reached = [above[at] is None for at in range(len(masks))]
    reached_as_greater = [False] * len(masks)
    while waiting:
        at = waiting.pop()
        for high in greater[at]:
            reached_as_greater[high] = True
            low = below[high]
            if low is not None and not reached[low]:
                reached[low] = True
                waiting.append(low)
    return [at for at in range(len(masks)) if reached[at] and not reached_as_greater[at]]
