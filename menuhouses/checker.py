"""A small checker: whether a certificate shows a claim, whoever wrote them.

It rests on no other part of the program, and takes values of any kind: what is
not of the form that is asked for shows nothing. Rankings are told by their rows,
houses by the rows of their rankings, looks by triples of tuples: their menu, the
things marked + and those marked -.
"""

from menuhouses.limits import MOST_LOOKS, MOST_PEOPLE, MOST_THINGS

LETTERS = "abcdefghijklmnopqrstuvwxyz"
DIGITS = "0123456789"
LONGEST_NAME = 8
MARKS = "+-?"
MOST_IN_CERTIFICATES = 130


def is_integer(value):
    """Whether the value is an integer."""
    return isinstance(value, int) and not isinstance(value, bool)


def is_index(value, rows):
    """Whether the value is the index of one of the rows."""
    return is_integer(value) and 0 <= value < len(rows)


def is_tuple_of(value, many):
    """Whether the value is a tuple of just so many values."""
    return isinstance(value, tuple) and len(value) == many


def is_name(value):
    """Whether the value is a name."""
    if not isinstance(value, str) or not 1 <= len(value) <= LONGEST_NAME:
        return False
    return value[0] in LETTERS and all([sign in LETTERS + DIGITS for sign in value])


def is_one_of(value, things):
    """Whether the value is one of the things."""
    # Values of other kinds could say of themselves that they equal a thing.
    return isinstance(value, str) and value in things


def is_ascending(row):
    """Whether each one is greater than the one before it."""
    return all([one < other for one, other in zip(row, row[1:])])


def is_part(names, others):
    """Whether each of the names is one of the others."""
    return all([name in others for name in names])


def are_things(value):
    """Whether the value is an ascending tuple of one to ten names."""
    if not isinstance(value, tuple) or not 1 <= len(value) <= MOST_THINGS:
        return False
    return all([is_name(name) for name in value]) and is_ascending(value)


def is_set(value, things):
    """Whether the value is an ascending tuple of some of the things, or of none."""
    return isinstance(value, tuple) and all([is_one_of(name, things) for name in value]) and is_ascending(value)


def is_menu(value, things):
    """Whether the value is a menu of the things."""
    return is_set(value, things) and len(value) > 0


def without(menu, thing):
    """The other things on the menu."""
    return tuple([name for name in menu if name != thing])


def row_of(text):
    """The row of the ranking with this text, None if there is none."""
    if not isinstance(text, str):
        return None
    row = tuple(text.split(" "))
    if len(row) > MOST_THINGS or len(set(row)) < len(row) or not all([is_name(name) for name in row]):
        return None
    return row


def house_of_text(text):
    """The rows of the house with this text, None if there is none."""
    if not isinstance(text, str):
        return None
    rows = [row_of(part) for part in text.split("; ")]
    if len(rows) > MOST_PEOPLE or None in rows or not is_ascending(rows):
        return None
    return rows if all([sorted(row) == sorted(rows[0]) for row in rows]) else None


def look_of(text, things):
    """The look at a menu of these things with this text, None if there is none."""
    if not isinstance(text, str):
        return None
    marked = [(part[:-1], part[-1:]) for part in text.split(" ")]
    menu = tuple([name for name, _ in marked])
    if not is_menu(menu, things) or not all([mark in MARKS for _, mark in marked]):
        return None
    passed = tuple([name for name, mark in marked if mark == "-"])
    return None if passed == menu else (menu, tuple([name for name, mark in marked if mark == "+"]), passed)


def looks_of(value, things):
    """The looks at menus of these things with these texts, None if there are none."""
    if not isinstance(value, tuple) or len(value) > MOST_LOOKS:
        return None
    looks = [look_of(text, things) for text in value]
    return None if None in looks else looks


def best(row, menu):
    """The thing on the menu that stands first in the row."""
    return [name for name in row if name in menu][0]


def takes(rows, menu, thing):
    """Whether somebody with one of these rows takes the thing from the menu."""
    return thing in [best(row, menu) for row in rows]


def has(rows, look):
    """Whether people with these rows have the look."""
    menu, taken, passed = look
    some = [best(row, menu) for row in rows]
    return is_part(taken, some) and not any([thing in passed for thing in some])


def people_who_fit(value, things, looks):
    """The rows of the people that the value tells, None if it tells none or they do not fit."""
    if not isinstance(value, tuple) or not 1 <= len(value) <= MOST_IN_CERTIFICATES:
        return None
    rows = [row_of(text) for text in value]
    if None in rows or not all([sorted(row) == list(things) for row in rows]):
        return None
    return rows if all([has(rows, look) for look in looks]) else None


def is_barred(thing, left, looks):
    """Whether the thing is marked - in a look at a menu that has only things that are left."""
    return any([thing in passed and is_part(menu, left) for menu, _, passed in looks])


def is_bar(value, things, looks):
    """Whether the value is a bar for the looks."""
    return is_menu(value, things) and all([is_barred(thing, value, looks) for thing in value])


def sharpened(looks, need):
    """The looks sharpened by this need of theirs, None if it is none."""
    if need is None:
        return looks if all([look[1] == () for look in looks]) else None
    if not is_tuple_of(need, 2) or not is_index(need[0], looks) or not is_one_of(need[1], looks[need[0]][1]):
        return None
    menu = looks[need[0]][0]
    return looks + [(menu, (), without(menu, need[1]))]


def is_need_and_bar(value, things, looks, more):
    """Whether the value is a pair of a need of the looks and a bar for those sharpened by it and these more."""
    if not is_tuple_of(value, 2):
        return False
    sharp = sharpened(looks, value[0])
    return sharp is not None and is_bar(value[1], things, sharp + more)


def shows_fits(things, looks, certificate):
    """Whether these are people who fit."""
    return people_who_fit(certificate, things, looks) is not None


def shows_unfit(things, looks, certificate):
    """Whether this is a need for which no ranking is let."""
    return is_need_and_bar(certificate, things, looks, [])


def shows_never(things, looks, menu, thing, certificate):
    """Whether this is a bar for the looks if somebody takes the thing."""
    return is_bar(certificate, things, looks + [(menu, (), without(menu, thing))])


def shows_surely(things, looks, menu, thing, certificate):
    """Whether this is a need for which no ranking is let if nobody takes the thing."""
    if menu == (thing,):
        return certificate is None
    return is_need_and_bar(certificate, things, looks, [(menu, (), (thing,))])


def shows_perhaps(things, looks, menu, thing, certificate):
    """Whether these are people who fit and take the thing, and such who do not."""
    if not is_tuple_of(certificate, 2):
        return False
    with_it = people_who_fit(certificate[0], things, looks)
    without_it = people_who_fit(certificate[1], things, looks)
    if with_it is None or without_it is None:
        return False
    return takes(with_it, menu, thing) and not takes(without_it, menu, thing)


def is_cover(value, row, rows):
    """Whether the value is a cover of the ranking in the house."""
    if not is_tuple_of(value, len(row)) or not all([is_index(at, rows) for at in value]):
        return False
    # All that is below the thing here is below it there if it is the best of them there, too.
    return all([best(rows[at], row[place:]) == row[place] for place, at in enumerate(value)])


def are_covers(value, one, other):
    """Whether the value is a cover of the one house in the other."""
    return is_tuple_of(value, len(one)) and all([is_cover(each, row, other) for each, row in zip(value, one)])


def shows_within(one, other, certificate):
    """Whether this is a cover of the one house in the other."""
    return are_covers(certificate, one, other)


def shows_alike(one, other, certificate):
    """Whether these are covers of each house in the other."""
    if not is_tuple_of(certificate, 2):
        return False
    return are_covers(certificate[0], one, other) and are_covers(certificate[1], other, one)


def shows_apart(one, other, certificate):
    """Whether this is a menu and a thing that the one house takes from it and the other does not."""
    if not is_tuple_of(certificate, 2):
        return False
    menu, thing = certificate
    if not is_menu(menu, one[0]) or not is_one_of(thing, menu):
        return False
    return takes(one, menu, thing) and not takes(other, menu, thing)


def shows_common(one, other, certificate):
    """Whether this is a ranking with a cover in each of the houses."""
    if not is_tuple_of(certificate, 3):
        return False
    row = row_of(certificate[0])
    if row is None or sorted(row) != sorted(one[0]):
        return False
    return is_cover(certificate[1], row, one) and is_cover(certificate[2], row, other)


def shows_foreign(one, other, certificate):
    """Whether this is a menu from which the houses take nothing in common."""
    if not is_menu(certificate, one[0]):
        return False
    return not any([takes(one, certificate, thing) and takes(other, certificate, thing) for thing in certificate])


def is_crest(value, rows):
    """Whether the value is a crest of the house."""
    if not is_tuple_of(value, 2) or not is_one_of(value[0], rows[0]) or not is_set(value[1], rows[0]):
        return False
    thing, names = value
    below = [row[at + 1:] for row in rows for at, name in enumerate(row) if name == thing]
    greater = [row for row in below if is_part(names, row)]
    return len(greater) > 0 and all([len(row) == len(names) for row in greater])


def are_loose(pairs):
    """Whether no set of these crests is a part of, or the same as, that of another one."""
    sets = [names for _, names in pairs]
    return not any([is_part(one, other) for at, one in enumerate(sets) for other in sets[:at] + sets[at + 1:]])


def shows_fewest(house, number, certificate):
    """Whether these are an alike house of so many rankings and as many loose crests."""
    if not is_tuple_of(certificate, 3):
        return False
    text, covers, loose = certificate
    rows = house_of_text(text)
    if rows is None or sorted(rows[0]) != sorted(house[0]) or len(rows) != number:
        return False
    if not is_tuple_of(loose, number) or not all([is_crest(each, house) for each in loose]):
        return False
    return is_ascending(loose) and are_loose(loose) and shows_alike(house, rows, covers)


OF_LOOKS = {"fits": shows_fits, "unfit": shows_unfit}
OF_ANSWERS = {"never": shows_never, "surely": shows_surely, "perhaps": shows_perhaps}
OF_HOUSES = {
    "within": shows_within, "alike": shows_alike, "apart": shows_apart, "common": shows_common,
    "foreign": shows_foreign,
}


def accepts_of_looks(word, things, texts, certificate):
    """Whether the certificate shows the claim with this word about these looks."""
    if not are_things(things):
        return False
    looks = looks_of(texts, things)
    shows = OF_LOOKS[word]
    return looks is not None and shows(things, looks, certificate)


def accepts_of_answers(word, things, texts, menu, thing, certificate):
    """Whether the certificate shows the claim with this word about a thing on a menu."""
    if not are_things(things) or not is_menu(menu, things) or not is_one_of(thing, menu):
        return False
    looks = looks_of(texts, things)
    shows = OF_ANSWERS[word]
    return looks is not None and shows(things, looks, menu, thing, certificate)


def accepts_of_houses(word, one, other, certificate):
    """Whether the certificate shows the claim with this word about two houses."""
    rows, others = house_of_text(one), house_of_text(other)
    if rows is None or others is None or sorted(rows[0]) != sorted(others[0]):
        return False
    shows = OF_HOUSES[word]
    return shows(rows, others, certificate)


def accepts_of_fewest(text, number, certificate):
    """Whether the certificate shows how many rankings an alike house has at least."""
    rows = house_of_text(text)
    return rows is not None and is_integer(number) and shows_fewest(rows, number, certificate)


def accepts(claim, certificate):
    """Whether the certificate shows the claim; both may be any values."""
    if not isinstance(claim, tuple) or claim == () or not isinstance(claim[0], str):
        return False
    word = claim[0]
    if word in OF_LOOKS and len(claim) == 3:
        return accepts_of_looks(word, claim[1], claim[2], certificate)
    if word in OF_ANSWERS and len(claim) == 5:
        return accepts_of_answers(word, claim[1], claim[2], claim[3], claim[4], certificate)
    if word in OF_HOUSES and len(claim) == 3:
        return accepts_of_houses(word, claim[1], claim[2], certificate)
    return word == "fewest" and len(claim) == 3 and accepts_of_fewest(claim[1], claim[2], certificate)
