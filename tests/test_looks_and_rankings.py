"""Looks at more things against the rankings that they let: all of up to seven things, and those of ten by their parts."""

import unittest
from functools import lru_cache
from itertools import combinations
from random import Random

from menuhouses.errors import Clash
from menuhouses.houses import House
from menuhouses.looks import Look, Looks
from menuhouses.rankings import Ranking
from by_rows import TEN, house_of, rows_in, some_rows, taken
from support import assert_index, menus_of, rows_of


@lru_cache(maxsize=None)
def rows_by_best(many, menu):
    """For each thing on the menu, the rows of this many things that have it as the best one, as bits."""
    found = dict.fromkeys(menu, 0)
    for at, row in enumerate(all_rows(many)):
        found[min(menu, key=row.index)] |= 1 << at
    return found


@lru_cache(maxsize=None)
def all_rows(many):
    return rows_of(TEN[:many])


def let_by(many, looks):
    """The rows that these looks let, as bits."""
    found = (1 << len(all_rows(many))) - 1
    for look in looks:
        for thing in look.passed:
            found &= ~rows_by_best(many, look.menu)[thing]
    return found


def needed(many, looks):
    """For each need the rows that are let by the looks sharpened by it; for no need those that are let, as bits."""
    let = let_by(many, looks)
    found = [let & rows_by_best(many, look.menu)[thing] for look in looks for thing in look.taken]
    return found or [let]


def fits(many, looks):
    return all(needed(many, looks))


def answer(many, looks, menu, thing):
    """The answer for looks that fit."""
    best = rows_by_best(many, menu)[thing]
    if any(not rows & ~best for rows in needed(many, looks)):
        return "surely"
    return "perhaps" if let_by(many, looks) & best else "never"


def put_in_turn(things, bans):
    """Whether some ranking is let by pairs of a menu and things that are not to be the best ones on it."""
    waiting, seen = [frozenset()], set()
    while waiting:
        put = waiting.pop()
        if len(put) == len(things):
            return True
        if put not in seen:
            seen.add(put)
            held = {thing for menu, passed in bans if not put & set(menu) for thing in passed}
            waiting.extend(put | {thing} for thing in things if thing not in put and thing not in held)
    return False


def rest(menu, thing):
    return tuple(other for other in menu if other != thing)


def bans_for_needs(looks):
    """For each need the bans of the looks sharpened by it."""
    bans = [(look.menu, look.passed) for look in looks]
    found = [bans + [(look.menu, rest(look.menu, thing))] for look in looks for thing in look.taken]
    return found or [bans]


def looks_at_house(chance, rows, many, hidden):
    """Looks that a house with these rows has, some of the marks being hidden."""
    things, found = tuple(sorted(rows[0])), []
    for _ in range(many):
        menu = tuple(sorted(chance.sample(things, chance.randint(2, len(things)))))
        some = taken(rows, menu)
        marks = "".join("+" if thing in some else "-" for thing in menu)
        marks = "".join("?" if chance.random() < hidden else mark for mark in marks)
        found.append(Look(menu, marks if set(marks) != {"-"} else "?" * len(menu)))
    return tuple(found)


def looks_of_no_house(chance, things, many):
    """Looks with any marks, of which most rows do not fit."""
    found = []
    for _ in range(many):
        menu = tuple(sorted(chance.sample(things, chance.randint(2, len(things)))))
        marks = [chance.choice("+-?--") for _ in menu]
        marks[chance.randrange(len(menu))] = chance.choice("+?")
        found.append(Look(menu, "".join(marks)))
    return tuple(found)


def some_looks(many_things, many_looks, times):
    """Rows of looks of several kinds, always the same ones for the same numbers."""
    chance = Random(f"looks {many_things} {many_looks}")
    for time in range(times):
        rows = some_rows(many_things, chance.choice((1, 2, 3, 5, 8)), time)
        yield looks_at_house(chance, rows, many_looks, chance.choice((0, 0.1, 0.4)))
        yield looks_of_no_house(chance, TEN[:many_things], many_looks)
        half = many_looks // 2
        other = some_rows(many_things, 2, time + 100)
        yield looks_at_house(chance, rows, half, 0.2) + looks_at_house(chance, other, many_looks - half, 0.2)


class AllRankings(unittest.TestCase):
    def assert_all(self, many, each):
        looks = Looks(TEN[:many], each)
        self.assertIs(looks.fit, fits(many, each))
        self.assert_alone(looks)
        if looks.fit:
            self.assert_answers(many, looks)
            self.assert_people(looks)
            self.assertIs(looks.clash(), None)
            self.assertEqual(looks.fewest_back(), ())
        else:
            first = min(size for size in range(len(each) + 1) if not fits(many, each[:size])) - 1
            assert_index(self, Clash, first, looks.people)
            assert_index(self, Clash, first, looks.settled)
            assert_index(self, Clash, first, looks.answer, TEN[:2], "a")

    def assert_answers(self, many, looks):
        settled = True
        for menu in menus_of(looks.things):
            told = [answer(many, looks.looks, menu, thing) for thing in menu]
            self.assertEqual([looks.answer(menu, thing) for thing in menu], told)
            marks = "".join({"surely": "+", "never": "-", "perhaps": "?"}[word] for word in told)
            self.assertEqual(looks.look(menu).marks, marks)
            settled = settled and "?" not in marks
            for some in menus_of(menu)[:12]:
                self.assertIs(looks.can_be(menu, some), fits(many, looks.looks + (Look.just(menu, some),)))
        self.assertIs(looks.settled(), settled)

    def assert_people(self, looks):
        people = looks.people()
        rows = tuple(ranking.row for ranking in people)
        self.assertEqual(rows, tuple(sorted(set(rows))))
        for look in looks.looks:
            self.assertEqual(set(look.taken) - set(taken(rows, look.menu)), set())
            self.assertEqual(set(look.passed) & set(taken(rows, look.menu)), set())
        self.assertLessEqual(len(rows), max(1, sum(len(look.taken) for look in looks.looks)))

    def assert_alone(self, looks):
        alone = looks.alone()
        having = [row for row in rows_of(looks.things) if all(
            set(look.taken) <= {min(look.menu, key=row.index)} and min(look.menu, key=row.index) not in look.passed
            for look in looks.looks)]
        if having:
            self.assertIn(alone.row, having)
        else:
            self.assertIs(alone, None)

    def test_four_things(self):
        for many in (1, 2, 3, 5, 8, 12):
            for each in some_looks(4, many, 15):
                self.assert_all(4, each)

    def test_five_things(self):
        for many in (2, 4, 7, 12):
            for each in some_looks(5, many, 3):
                self.assert_all(5, each)

    def test_six_and_seven_things(self):
        for things, many in ((6, 3), (6, 12), (7, 12)):
            for each in some_looks(things, many, 1):
                self.assert_all(things, each)

    def test_each_chain_of_looks_that_settles(self):
        for many in (4, 5, 6):
            row = some_rows(many, 1, 9)[0]
            each = tuple(Look.just(tuple(sorted(row[at:])), (row[at],)) for at in range(many - 1))
            self.assert_all(many, each)
            looks = Looks(TEN[:many], each)
            self.assertIs(looks.settled(), True)
            self.assertEqual([ranking.row for ranking in looks.people()], [row])
            self.assertIs(looks.without(many - 2).settled(), False)


class FewestLooks(unittest.TestCase):
    def assert_fewest(self, many, each):
        looks = Looks(TEN[:many], each)
        told = None
        if not fits(many, each):
            told = next(some for size in range(len(each) + 1) for some in combinations(range(len(each)), size)
                        if not fits(many, [each[at] for at in some]))
        self.assertEqual(looks.clash(), told)
        back = next(some for size in range(len(each) + 1) for some in combinations(range(len(each)), size)
                    if fits(many, [look for at, look in enumerate(each) if at not in some]))
        self.assertEqual(looks.fewest_back(), back)

    def test_against_all_parts_of_the_looks(self):
        for things, many, times in ((4, 3, 20), (4, 6, 20), (5, 8, 6), (5, 12, 3), (6, 12, 1)):
            for each in some_looks(things, many, times):
                self.assert_fewest(things, each)

    def test_a_clash_of_many_looks(self):
        # Each thing is better than the next one, and the last one better than the first.
        for many in range(3, 11):
            circle = [(TEN[at], TEN[(at + 1) % many]) for at in range(many)]
            each = tuple(Look.just(tuple(sorted(pair)), pair[:1]) for pair in circle)
            for back in range(many):
                looks = Looks(TEN[:many], each[back:] + each[:back])
                self.assertEqual(looks.clash(), tuple(range(many)))
                self.assertEqual(looks.fewest_back(), (0,))
                self.assertEqual(looks.without(back).people(), (looks.without(back).alone(),))

    def test_the_least_of_several(self):
        first, second = Look.read("a+ b-"), Look.read("a- b+")
        for each, clash, back in (((first, second), (0, 1), (0,)), ((first, first, second), (0, 2), (2,)),
                                  ((first, second, second), (0, 1), (0,)),
                                  ((second, first, first, second), (0, 1), (0, 3)),
                                  ((first,) * 6 + (second,) * 6, (0, 6), (0, 1, 2, 3, 4, 5)),
                                  ((first,) * 7 + (second,) * 5, (0, 7), (7, 8, 9, 10, 11))):
            looks = Looks(("a", "b"), each)
            self.assertEqual((looks.clash(), looks.fewest_back()), (clash, back))


class TenThings(unittest.TestCase):
    def assert_all(self, each, chance):
        looks = Looks(TEN, each)
        fit = all(put_in_turn(TEN, bans) for bans in bans_for_needs(each))
        self.assertIs(looks.fit, fit)
        if not fit:
            first = next(at for at in range(12)
                         if not all(put_in_turn(TEN, bans) for bans in bans_for_needs(each[:at + 1])))
            assert_index(self, Clash, first, looks.settled)
            return
        house = House(*looks.people())
        self.assertTrue(all(look.holds(house) for look in each))
        for _ in range(2):
            menu = tuple(sorted(chance.sample(TEN, chance.randint(1, 10))))
            for thing, mark in zip(menu, looks.look(menu).marks):
                self.assertEqual(mark, self.mark(each, menu, thing))

    def mark(self, each, menu, thing):
        least = bans_for_needs(each)
        if len(menu) == 1 or not all(put_in_turn(TEN, bans + [(menu, (thing,))]) for bans in least):
            return "+"
        bans = [(look.menu, look.passed) for look in each]
        return "?" if put_in_turn(TEN, bans + [(menu, rest(menu, thing))]) else "-"

    def test_twelve_looks(self):
        chance = Random("menus of ten")
        for each in some_looks(10, 12, 3):
            self.assert_all(each, chance)

    def test_what_is_told_is_so_for_the_house_that_was_seen(self):
        chance = Random("a house of ten")
        for many in (1, 3, 6, 20):
            rows = some_rows(10, many, 4)
            looks = Looks(TEN, looks_at_house(chance, rows, 12, 0.1))
            for menu in menus_of(TEN)[::41]:
                some = taken(rows, menu)
                for thing, mark in zip(menu, looks.look(menu).marks):
                    self.assertNotEqual(mark, "-" if thing in some else "+")
                self.assertIs(looks.can_be(menu, some), True)

    def test_settled(self):
        row = some_rows(10, 1, 6)[0]
        each = tuple(Look.just(tuple(sorted(row[at:])), (row[at],)) for at in range(9))
        looks = Looks(TEN, each)
        self.assertIs(looks.settled(), True)
        self.assertEqual(looks.alone().row, row)
        self.assertIs(looks.and_seen(Look(TEN, "?" * 10)).settled(), True)
        for at in range(9):
            self.assertIs(looks.without(at).settled(), False)
        # If each thing is the first one of somebody, then all are taken from every menu.
        everything = Looks(TEN, (Look.just(TEN, TEN),))
        self.assertIs(everything.settled(), True)
        self.assertEqual(len(everything.people()), 10)

    def test_people_can_be_more_than_24(self):
        rows = some_rows(10, 40, 0)
        chance = Random("many people")
        menus = [tuple(sorted(chance.sample(TEN, chance.randint(5, 9)))) for _ in range(12)]
        looks = Looks(TEN, tuple(Look.just(menu, taken(rows, menu)) for menu in menus))
        people = [ranking.row for ranking in looks.people()]
        self.assertGreater(len(people), 24)
        self.assertLessEqual(len(people), sum(len(look.taken) for look in looks.looks))
        self.assertEqual(people, sorted(set(people)))
        for look in looks.looks:
            self.assertEqual(taken(people, look.menu), look.taken)


class Twice(unittest.TestCase):
    def test_asking_twice_tells_the_same(self):
        for each in some_looks(6, 9, 4):
            looks, again = Looks(TEN[:6], each), Looks(TEN[:6], tuple(Look(look.menu, look.marks) for look in each))
            self.assertTrue(looks == again)
            for name in ("alone", "clash", "fewest_back") + (("people", "settled") if looks.fit else ()):
                for other in (looks, again):
                    self.assertEqual(getattr(looks, name)(), getattr(other, name)())
            self.assertEqual((looks.things, looks.looks), (TEN[:6], each))

    def test_houses_stay(self):
        house = house_of(some_rows(4, 5, 1))
        rows, look = rows_in(house), Look.read("a+ b- c?")
        self.assertIs(look.holds(house), look.holds(house))
        self.assertEqual((rows_in(house), str(look)), (rows, "a+ b- c?"))
        self.assertIs(Ranking(rows[0]) in house, True)


if __name__ == "__main__":
    unittest.main()
