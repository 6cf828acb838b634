"""Certificates: claims, each with what shows it to the checker."""

from menuhouses.checks import check_menu, check_thing
from menuhouses.comparing import fewest_house, loose_crests, parting_menu
from menuhouses.errors import NotLooks
from menuhouses.houses import check_house, check_other_house
from menuhouses.joining import dead_end, joining_steps, rows_ahead
from menuhouses.letting import bans_of, bar, let_row, needs, rows_that_fit, sharpened
from menuhouses.looks import Looks, masks_of_look
from menuhouses.masks import indexes_of, mask_of, mask_of_all, names_of
from menuhouses.rankings import Ranking


def check_are_looks(looks):
    """Raises NotLooks if these are no Looks."""
    if not isinstance(looks, Looks):
        raise NotLooks(looks)


def masks_of_looks(looks):
    """The looks as masks."""
    return [masks_of_look(look, looks.things) for look in looks.looks]


def claim_of_looks(word, looks):
    """The claim with this word about the looks."""
    return word, looks.things, tuple([str(look) for look in looks.looks])


def texts_of_people(rows, things):
    """The texts of the rankings with these rows of indexes."""
    return tuple([" ".join(names_of(row, things)) for row in rows])


def need_and_bar(looks, bans):
    """A need of the looks such that no ranking is let by those sharpened by it and these bans, and the bar."""
    things, masks = looks.things, masks_of_looks(looks)
    full = mask_of_all(len(things))
    # It is asked for only where there is such a need.
    for need in needs(masks):
        barred = bar(full, sharpened(masks, need) + bans)
        if barred != 0:
            told = None if need is None else (need[0], things[need[1]])
            return told, names_of(indexes_of(barred), things)


def shown_unfit(looks):
    """The claim that the looks do not fit, and its certificate."""
    return claim_of_looks("unfit", looks), need_and_bar(looks, [])


def shown_surely(looks, menu, thing):
    """What shows that the thing is surely taken from the menu."""
    if menu == (thing,):
        return None
    return need_and_bar(looks, [(mask_of(menu, looks.things), mask_of((thing,), looks.things))])


def shown_never(looks, menu, thing):
    """What shows that the thing is never taken from the menu."""
    things, menu_mask = looks.things, mask_of(menu, looks.things)
    others = menu_mask - mask_of((thing,), things)
    barred = bar(mask_of_all(len(things)), bans_of(masks_of_looks(looks)) + [(menu_mask, others)])
    return names_of(indexes_of(barred), things)


def shown_perhaps(looks, menu, thing):
    """What shows that the thing is perhaps taken from the menu: people who take it, and such who do not."""
    things, masks = looks.things, masks_of_looks(looks)
    full, menu_mask, bit = mask_of_all(len(things)), mask_of(menu, things), mask_of((thing,), things)
    one_who_takes_it = let_row(full, bans_of(masks) + [(menu_mask, menu_mask - bit)])
    nobody_takes_it = rows_that_fit(full, masks + [(menu_mask, 0, bit)])
    with_it = rows_that_fit(full, masks) + [one_who_takes_it]
    return texts_of_people(with_it, things), texts_of_people(nobody_takes_it, things)


SHOWN = {"surely": shown_surely, "never": shown_never, "perhaps": shown_perhaps}


def cover(ranking, house):
    """For each thing in the row, the index of a ranking of the house in which all that is below it here is, too."""
    found = []
    for place, thing in enumerate(ranking.row):
        menu = tuple(sorted(ranking.row[place:]))
        found.append([at for at, other in enumerate(house.rankings) if other.best(menu) == thing][0])
    return tuple(found)


def covers(one, other):
    """The covers of the rankings of the one house in the other, which it is within."""
    return tuple([cover(ranking, other) for ranking in one.rankings])


def shown_within(one, other):
    """The claim that the one house is within the other, and its certificate."""
    return ("within", str(one), str(other)), covers(one, other)


def shown_apart(one, other):
    """The claim that the one house is not within the other, and its certificate."""
    menu = parting_menu(one, other)
    common = other(menu)
    thing = [name for name in one(menu) if name not in common][0]
    return ("apart", str(one), str(other)), (menu, thing)


def certify_looks(looks):
    """The claim that the looks fit, or that they do not, with its certificate."""
    check_are_looks(looks)
    if not looks.fit:
        return shown_unfit(looks)
    rows = rows_that_fit(mask_of_all(len(looks.things)), masks_of_looks(looks))
    return claim_of_looks("fits", looks), texts_of_people(rows, looks.things)


def certify_answer(looks, menu, thing):
    """The claim how the thing is taken from the menu, or that the looks do not fit, with its certificate."""
    check_are_looks(looks)
    check_menu(menu, looks.things)
    check_thing(thing, menu)
    if not looks.fit:
        return shown_unfit(looks)
    word = looks.answer(menu, thing)
    show = SHOWN[word]
    return claim_of_looks(word, looks) + (menu, thing), show(looks, menu, thing)


def certify_order(one, other):
    """The claim that the one house is within the other, or that it is not, with its certificate."""
    check_house(one)
    check_other_house(other, one.things)
    return shown_within(one, other) if one.within(other) else shown_apart(one, other)


def certify_alike(one, other):
    """The claim that the houses are alike, or that one of them is not within the other, with its certificate."""
    check_house(one)
    check_other_house(other, one.things)
    if not one.within(other):
        return shown_apart(one, other)
    if not other.within(one):
        return shown_apart(other, one)
    return ("alike", str(one), str(other)), (covers(one, other), covers(other, one))


def certify_fewest(house):
    """The claim how many rankings a house that is alike has at least, with its certificate."""
    check_house(house)
    fewest = fewest_house(house)
    both = (covers(house, fewest), covers(fewest, house))
    return ("fewest", str(house), len(fewest)), (str(fewest), both, loose_crests(house))


def certify_common(one, other):
    """The claim that some ranking may join both houses, or that none may, with its certificate."""
    check_house(one)
    check_other_house(other, one.things)
    things = one.things
    steps = joining_steps([one.crest_masks, other.crest_masks])
    foreign = dead_end(steps)
    if foreign is not None:
        return ("foreign", str(one), str(other)), names_of(indexes_of(foreign), things)
    # Ahead of the empty menu stand all things.
    ranking = Ranking(names_of(rows_ahead(steps)[0], things))
    return ("common", str(one), str(other)), (str(ranking), cover(ranking, one), cover(ranking, other))
