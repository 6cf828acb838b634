"""Sets of things as integers, called masks.

The bit with the value 1 << k is set if the thing with the index k is in the set;
the indexes are those of the ascending things. So an ascending row of indexes
tells an ascending row of names, and a part of a set has a lesser mask.
"""


def mask_of_all(many):
    """The mask of this many things."""
    return (1 << many) - 1


def index_of(name, names):
    """The index of this one of the names."""
    # Not by `.index`: errors store an attribute of this name, so that LANGUAGE.md (L18) bars its call in operators.
    return [at for at, other in enumerate(names) if other == name][0]


def mask_of(names, things):
    """The mask of these names among the things."""
    mask = 0
    for name in names:
        mask = mask | (1 << index_of(name, things))
    return mask


def indexes_of(mask):
    """The indexes of the things in the mask, ascending."""
    return [at for at in range(mask.bit_length()) if (mask >> at) & 1]


def names_of(indexes, things):
    """The things with these indexes, in their order."""
    return tuple([things[at] for at in indexes])


def below_masks(row, things):
    """For each of the things, ascending, the mask of those that stand behind it in the row."""
    return [mask_of(row[index_of(thing, row) + 1:], things) for thing in things]


def is_covered(mask, masks):
    """Whether the mask is a part of one of the masks, or one of them."""
    for other in masks:
        if (mask & other) == mask:
            return True
    return False


def greatest(masks):
    """Those of the masks that are no part of a greater one, each once."""
    found = []
    for mask in sorted(masks, reverse=True):
        # Whatever it could be a part of has a greater mask and was here before.
        if not is_covered(mask, found):
            found.append(mask)
    return tuple(found)


def index_rows(many):
    """Yields all ascending tuples of indexes below this number: the shorter ones first, then the lesser ones."""
    rows = [()]
    while rows:
        yield from rows
        rows = [row + (at,) for row in rows for at in range(row[-1] + 1 if row else 0, many)]
