"""Looks as masks: which rankings they let, whether they fit, and what is surely, never or perhaps taken.

Here a look is a triple of masks: of its menu, of the things marked + and of those
marked -. A *ban* is a pair of masks, of a menu and of some things on it: a ranking
that is let by bans has none of these things as the best one on this menu. To the
rankings that are let nothing but the bans of looks matters.
"""

from menuhouses.masks import indexes_of, is_covered


def bans_of(looks):
    """The bans of these looks."""
    return [(menu, passed) for menu, _, passed in looks]


def banned(bans, put):
    """The things that may not come next, whatever they are, when these have been put."""
    found = 0
    for menu, passed in bans:
        if (menu & put) == 0:
            found = found | passed
    return found


def rounds_of_putting(full, bans):
    """All that can be put one by one, as masks: in each round come the things that may come after those before."""
    rounds = []
    put = 0
    free = full - banned(bans, put)
    # Whatever may come may also come later, as fewer bans are left then.
    while free != put:
        rounds.append(free - put)
        put = free
        free = full - banned(bans, put)
    return rounds


def bar(full, bans):
    """The mask of the things that can never be put: 0 exactly if some ranking is let."""
    return full - sum(rounds_of_putting(full, bans))


def let_row(full, bans):
    """The row of a ranking that is let, as indexes, if there is one."""
    return [at for mask in rounds_of_putting(full, bans) for at in indexes_of(mask)]


def needs(looks):
    """The needs of the looks: pairs of the index of a look and that of a thing; if there are none, None alone."""
    found = [(number, at) for number, look in enumerate(looks) for at in indexes_of(look[1])]
    return found if found else [None]


def sharpened(looks, need):
    """The bans of the looks sharpened by this need of theirs."""
    if need is None:
        return bans_of(looks)
    number, at = need
    menu = looks[number][0]
    return bans_of(looks) + [(menu, menu - (1 << at))]


def do_fit(full, looks):
    """Whether some house has all these looks."""
    for need in needs(looks):
        if bar(full, sharpened(looks, need)) != 0:
            return False
    return True


def first_clash(full, looks):
    """The least index such that the looks up to this one, it included, do not fit; None if all of them fit."""
    if do_fit(full, looks):
        return None
    at = 0
    while do_fit(full, looks[:at + 1]):
        at += 1
    return at


def may_be_taken(full, looks, menu, at):
    """Whether some ranking that is let has this thing as the best one on the menu."""
    return bar(full, bans_of(looks) + [(menu, menu - (1 << at))]) == 0


def sure_masks(full, looks, at):
    """For each need, the things that stand behind this one in all rankings let by the looks sharpened by it.

    So the thing is surely taken from a menu exactly if all others on it are in one of these masks.
    """
    bit = 1 << at
    # With a ban on a menu of the thing alone it is never put, and what is left needs it.
    return [bar(full, sharpened(looks, need) + [(bit, bit)]) - bit for need in needs(looks)]


def answer_of(full, looks, menu, at):
    """The word that tells whether the thing is taken from the menu, by looks that fit."""
    if is_covered(menu - (1 << at), sure_masks(full, looks, at)):
        return "surely"
    return "perhaps" if may_be_taken(full, looks, menu, at) else "never"


def are_settled(full, looks):
    """Whether nothing is perhaps taken from any menu, by looks that fit."""
    for at in indexes_of(full):
        masks = sure_masks(full, looks, at)
        for menu in range(1, full + 1):
            if (menu >> at) & 1 and not is_covered(menu - (1 << at), masks):
                if may_be_taken(full, looks, menu, at):
                    return False
    return True


def rows_that_fit(full, looks):
    """Rows of indexes, one for each need, of which the house has all the looks, if they fit."""
    return [let_row(full, sharpened(looks, need)) for need in needs(looks)]


def row_alone(full, looks):
    """The row of a ranking that has all the looks as the only one of a house, None if there is none."""
    bans = []
    for menu, taken, passed in looks:
        if len(indexes_of(taken)) > 1:
            return None
        bans.append((menu, menu - taken if taken else passed))
    return None if bar(full, bans) else let_row(full, bans)
