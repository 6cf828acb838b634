"""What the document says of claims and certificates, told without the program: values of any kind are let."""

import re
from itertools import combinations

NAME = re.compile(r"[a-z][a-z0-9]{0,7}\Z")
LOOK = re.compile(r"([a-z][a-z0-9]{0,7})([-+?])\Z")


def is_tuple(value, many=None):
    """Whether the value is a tuple, of so many values."""
    return type(value) is tuple and (many is None or len(value) == many)


def is_row_of_names(value, things=None):
    """Whether the value is an ascending tuple of names, or of some of these."""
    if not is_tuple(value) or not all(type(name) is str and NAME.match(name) for name in value):
        return False
    return list(value) == sorted(set(value)) and (things is None or set(value) <= set(things))


def row_in(text):
    """The row of the ranking with this text, or None."""
    row = text.split(" ") if type(text) is str else []
    return row if 1 <= len(set(row)) == len(row) <= 10 and all(map(NAME.match, row)) else None


def rows_in(text):
    """The rows of the house with this text, or None."""
    rows = [row_in(part) for part in text.split("; ")] if type(text) is str else []
    if not 1 <= len(rows) <= 24 or None in rows or len({frozenset(row) for row in rows}) > 1:
        return None
    return rows if all(one < other for one, other in zip(rows, rows[1:])) else None


def look_in(text, things):
    """The marks of the things on the menu of the look with this text, or None."""
    found = [LOOK.match(part) for part in text.split(" ")] if type(text) is str else []
    if not found or None in found:
        return None
    marks = dict(match.groups() for match in found)
    if len(marks) < len(found) or not is_row_of_names(tuple(marks), things) or set(marks.values()) == {"-"}:
        return None
    return marks


def with_mark(look, mark):
    """The things with this mark."""
    return {thing for thing, each in look.items() if each == mark}


def best(row, menu):
    """The best thing on the menu."""
    return min(menu, key=row.index)


def below(row, thing):
    """The things below this one."""
    return set(row[row.index(thing) + 1:])


def taken(rows, menu):
    """What people with these rows take from the menu."""
    return {best(row, menu) for row in rows}


def fitting_people(value, things, looks):
    """The rows of the people who fit that the value is, or None."""
    if not is_tuple(value) or not 1 <= len(value) <= 130:
        return None
    rows = [row_in(text) for text in value]
    if None in rows or any(set(row) != set(things) for row in rows):
        return None
    for look in looks:
        some = taken(rows, look)
        if not with_mark(look, "+") <= some or with_mark(look, "-") & some:
            return None
    return rows


def is_bar(value, things, looks):
    """Whether the value is a bar for the looks."""
    if not is_row_of_names(value, things) or not value:
        return False
    within = [look for look in looks if set(look) <= set(value)]
    return set(value) <= {thing for look in within for thing in with_mark(look, "-")}


def sharper(looks, need):
    """The looks sharpened by the need, or None."""
    if need is None:
        return None if any("+" in look.values() for look in looks) else looks
    if not is_tuple(need, 2) or type(need[0]) is not int or type(need[1]) is not str:
        return None
    if not 0 <= need[0] < len(looks) or looks[need[0]].get(need[1]) != "+":
        return None
    return looks + [{thing: "?" if thing == need[1] else "-" for thing in looks[need[0]]}]


def is_pair_with_bar(value, things, looks, more):
    """Whether the value is a need and a bar for the looks sharpened by it, with these behind them."""
    if not is_tuple(value, 2):
        return False
    sharp = sharper(looks, value[0])
    return sharp is not None and is_bar(value[1], things, sharp + more)


def is_cover(value, row, rows):
    """Whether the value is a cover of the ranking in the house."""
    if not is_tuple(value, len(row)) or not all(type(at) is int and 0 <= at < len(rows) for at in value):
        return False
    return all(below(row, thing) <= below(rows[at], thing) for thing, at in zip(row, value))


def are_covers(value, one, other):
    """Whether the value is a cover of the one house in the other."""
    return is_tuple(value, len(one)) and all(is_cover(each, row, other) for each, row in zip(value, one))


def are_both_covers(value, one, other):
    """Whether the value is a pair of covers."""
    return is_tuple(value, 2) and are_covers(value[0], one, other) and are_covers(value[1], other, one)


def crests(rows):
    """The crests of the house."""
    found = {(thing, frozenset(below(row, thing))) for row in rows for thing in row}
    return [(thing, tuple(sorted(some))) for thing, some in found
            if not any(thing == name and some < more for name, more in found)]


def are_loose(pairs):
    """Whether the crests are loose."""
    sets = [set(some) for _, some in pairs]
    return not any(one <= other or other <= one for one, other in combinations(sets, 2))


def is_of_crests(value, rows, many):
    """Whether the value is an ascending tuple of so many crests that are loose."""
    if not is_tuple(value, many) or not all(is_tuple(pair, 2) for pair in value):
        return False
    if not all(type(pair[0]) is str and is_row_of_names(pair[1], rows[0]) for pair in value):
        return False
    own = crests(rows)
    return all(pair in own for pair in value) and list(value) == sorted(set(value)) and are_loose(value)


def shows_looks(word, things, looks, certificate):
    """Of the claims about looks."""
    if word == "fits":
        return fitting_people(certificate, things, looks) is not None
    return is_pair_with_bar(certificate, things, looks, [])


def shows_answer(word, things, looks, menu, thing, certificate):
    """Of the claims about a thing on a menu."""
    if word == "never":
        return is_bar(certificate, things, looks + [{each: "?" if each == thing else "-" for each in menu}])
    if word == "surely":
        if len(menu) == 1:
            return certificate is None
        more = {each: "-" if each == thing else "?" for each in menu}
        return is_pair_with_bar(certificate, things, looks, [more])
    if not is_tuple(certificate, 2):
        return False
    some, others = [fitting_people(each, things, looks) for each in certificate]
    return some is not None and others is not None and thing in taken(some, menu) and thing not in taken(others, menu)


def shows_houses(word, one, other, certificate):
    """Of the claims about two houses."""
    if word == "within":
        return are_covers(certificate, one, other)
    if word == "alike":
        return are_both_covers(certificate, one, other)
    if word == "foreign":
        if not is_row_of_names(certificate, one[0]) or not certificate:
            return False
        return not taken(one, certificate) & taken(other, certificate)
    if word == "apart":
        if not is_tuple(certificate, 2) or not is_row_of_names(certificate[0], one[0]):
            return False
        menu, thing = certificate
        if type(thing) is not str or thing not in menu:
            return False
        return thing in taken(one, menu) and thing not in taken(other, menu)
    if not is_tuple(certificate, 3):
        return False
    row = row_in(certificate[0])
    if row is None or set(row) != set(one[0]):
        return False
    return is_cover(certificate[1], row, one) and is_cover(certificate[2], row, other)


def shows_fewest(house, number, certificate):
    """Of the claims how many rankings are needed."""
    if not is_tuple(certificate, 3):
        return False
    rows = rows_in(certificate[0])
    if rows is None or set(rows[0]) != set(house[0]) or len(rows) != number:
        return False
    return are_both_covers(certificate[1], house, rows) and is_of_crests(certificate[2], house, number)


def shows(claim, certificate):
    """Whether the certificate is one for the claim, and the claim is one."""
    if not is_tuple(claim) or not claim or type(claim[0]) is not str:
        return False
    word, many = claim[0], len(claim)
    if word == "fewest" and many == 3:
        house = rows_in(claim[1])
        return house is not None and type(claim[2]) is int and shows_fewest(house, claim[2], certificate)
    if word in ("within", "alike", "apart", "common", "foreign") and many == 3:
        one, other = rows_in(claim[1]), rows_in(claim[2])
        if one is None or other is None or set(one[0]) != set(other[0]):
            return False
        return shows_houses(word, one, other, certificate)
    if (word, many) not in (("fits", 3), ("unfit", 3), ("never", 5), ("surely", 5), ("perhaps", 5)):
        return False
    things = claim[1]
    if not is_row_of_names(things) or not 1 <= len(things) <= 10 or not is_tuple(claim[2]) or len(claim[2]) > 12:
        return False
    looks = [look_in(text, things) for text in claim[2]]
    if None in looks:
        return False
    if many == 3:
        return shows_looks(word, things, looks, certificate)
    menu, thing = claim[3], claim[4]
    if not is_row_of_names(menu, things) or type(thing) is not str or thing not in menu:
        return False
    return shows_answer(word, things, looks, menu, thing, certificate)
