"""What can be shown to the checker of up to three things is what is so for all houses of these things."""

import unittest
from itertools import combinations, product
from random import Random

from menuhouses.checker import accepts
from by_certificates import below, crests, is_cover
from by_looks import TABLES, all_looks, answer_of, houses_that_fit
from by_rows import OF_FEW, SOME_OF_FOUR, TEN, THREE, all_houses, are_loose, fewest, is_part, joining, table
from support import menus_of

WORDS = ("never", "surely", "perhaps")


def text_of(rows):
    """The text of the house with these rows."""
    return "; ".join(" ".join(row) for row in rows)


def people(rows):
    """The texts of the rankings with these rows."""
    return tuple(" ".join(row) for row in rows)


def needs_and_more(looks, things):
    """All needs of these looks, and some that may be none."""
    return [None] + list(product(range(len(looks)), things))


class LooksOfFewThings(unittest.TestCase):
    def assert_all(self, things, looks, houses_tried):
        """What can be shown of these looks."""
        houses = houses_that_fit(len(things), looks)
        claim = (things, tuple(str(look) for look in looks))
        pairs = list(product(needs_and_more(looks, things), menus_of(things)))
        self.assertIs(any([accepts(("unfit",) + claim, pair) for pair in pairs]), not houses)
        for rows in houses_tried:
            self.assertIs(accepts(("fits",) + claim, people(rows)), rows in houses)
        for menu in menus_of(things):
            for thing in menu:
                self.assert_answers(houses, claim + (menu, thing), pairs, houses_tried)

    def assert_answers(self, houses, claim, pairs, houses_tried):
        """Which of the three words can be shown."""
        things, _, menu, thing = claim
        never = any([accepts(("never",) + claim, bar) for bar in menus_of(things)])
        surely = any([accepts(("surely",) + claim, pair) for pair in pairs + [None]])
        perhaps = False
        for some, others in zip(houses_tried, houses_tried[1:] + houses_tried[:1]):
            tables = TABLES[len(things)]
            told = accepts(("perhaps",) + claim, (people(some), people(others)))
            self.assertIs(told, some in houses and others in houses and thing in tables[some][menu]
                          and thing not in tables[others][menu])
            perhaps = perhaps or told
        if houses:
            answer = answer_of(len(things), houses, menu, thing)
            self.assertEqual((never, surely), (answer == "never", answer == "surely"))
            self.assertTrue(answer == "perhaps" or not perhaps)
            if answer == "perhaps":
                with_it = [rows for rows in houses if thing in TABLES[len(things)][rows][menu]]
                others = [rows for rows in houses if rows not in with_it]
                self.assertIs(accepts(("perhaps",) + claim, (people(with_it[0]), people(others[-1]))), True)

    def test_one_thing_and_two(self):
        for many in (1, 2):
            things = TEN[:many]
            for length in (0, 1, 2):
                for looks in product(all_looks(things), repeat=length):
                    self.assert_all(things, looks, all_houses(things))

    def test_three_looks_at_two_things(self):
        chance = Random("three looks at two things")
        for _ in range(120):
            self.assert_all(TEN[:2], tuple(chance.choices(all_looks(TEN[:2]), k=3)), all_houses(TEN[:2]))

    def test_one_look_at_three_things(self):
        for look in all_looks(THREE)[::2]:
            self.assert_all(THREE, (look,), all_houses(THREE)[::4])

    def test_more_looks_at_three_things(self):
        chance = Random("looks to be shown")
        looks = all_looks(THREE)
        for many in (2, 2, 3, 3, 4, 4, 5):
            for _ in range(6):
                self.assert_all(THREE, tuple(chance.choices(looks, k=many)), chance.sample(all_houses(THREE), 6))

    def test_looks_that_a_house_has(self):
        chance = Random("looks of a house to be shown")
        for rows in all_houses(THREE)[::6]:
            own = [look for look in all_looks(THREE) if rows in houses_that_fit(3, (look,))]
            self.assert_all(THREE, tuple(chance.choices(own, k=4)), [rows] + chance.sample(all_houses(THREE), 3))


class Houses(unittest.TestCase):
    def covers_that_there_are(self, one, other):
        """A cover of the one house in the other with the first indexes that there are, or 0 where there are none."""
        def first(row, thing):
            return next((at for at, each in enumerate(other) if below(row, thing) <= below(each, thing)), 0)

        return tuple(tuple(first(row, thing) for thing in row) for row in one)

    def assert_order(self, one, other):
        """What can be shown of two houses."""
        tables, claim = (table(one), table(other)), (text_of(one), text_of(other))
        there, back = self.covers_that_there_are(one, other), self.covers_that_there_are(other, one)
        within, turned = is_part(*tables), is_part(*tables[::-1])
        self.assertIs(accepts(("within",) + claim, there), within)
        self.assertIs(accepts(("alike",) + claim, (there, back)), within and turned)
        shown = [(menu, thing) for menu in tables[0] for thing in menu if accepts(("apart",) + claim, (menu, thing))]
        told = [(menu, thing) for menu, some in tables[0].items() for thing in some if thing not in tables[1][menu]]
        self.assertEqual(shown, told)
        self.assertIs(bool(shown), not within)

    def assert_common(self, one, other):
        """What can be shown of what two houses have in common."""
        tables, claim = (table(one), table(other)), (text_of(one), text_of(other))
        foreign = [menu for menu in tables[0] if accepts(("foreign",) + claim, menu)]
        self.assertEqual(foreign, [menu for menu in tables[0] if not set(tables[0][menu]) & set(tables[1][menu])])
        common = []
        for (text,) in map(people, [[row] for row in all_rows(one[0])]):
            row = tuple(text.split(" "))
            covers = [self.covers_that_there_are([row], house)[0] for house in (one, other)]
            if accepts(("common",) + claim, (text, *covers)):
                common.append(row)
        self.assertEqual(common, joining(tables))
        self.assertIs(bool(common), not foreign)

    def test_all_houses_of_few_things(self):
        for one, other in product(OF_FEW, repeat=2):
            if len(one[0]) == len(other[0]):
                self.assert_order(one, other)
                self.assert_common(one, other)

    def test_houses_of_three_things(self):
        for one in all_houses(THREE)[::2]:
            for other in all_houses(THREE)[::3]:
                self.assert_order(one, other)

    def test_common_rankings_of_three_things(self):
        for one in all_houses(THREE)[::5]:
            for other in all_houses(THREE)[::4]:
                self.assert_common(one, other)

    def test_houses_of_four_things(self):
        for one, other in zip(SOME_OF_FOUR, SOME_OF_FOUR[1:] + SOME_OF_FOUR[:1]):
            self.assert_order(one, other)
            self.assert_order(one, tuple(sorted(set(one + other)))[:24])

    def test_every_cover_of_a_ranking(self):
        one, other = (("b", "a", "c"),), (("a", "b", "c"), ("b", "c", "a"), ("c", "b", "a"))
        for cover in product(range(-1, 4), repeat=3):
            told = is_cover(cover, list(one[0]), [list(row) for row in other])
            self.assertIs(accepts(("within", text_of(one), text_of(other)), (cover,)), told)

    def test_fewest_of_all_houses_of_few_things(self):
        for rows in OF_FEW + all_houses(THREE)[::2]:
            alike = [each for each in all_houses(tuple(sorted(rows[0]))) if table(each) == table(rows)]
            shown = []
            for each in alike:
                for loose in combinations(sorted(crests(rows)), len(each)):
                    both = (self.covers_that_there_are(rows, each), self.covers_that_there_are(each, rows))
                    certificate = (text_of(each), both, loose)
                    for number in range(len(each) - 1, len(each) + 2):
                        if accepts(("fewest", text_of(rows), number), certificate):
                            self.assertTrue(number == len(each) and are_loose(loose))
                            shown.append(number)
            self.assertEqual(set(shown), {fewest(rows)})

    def test_houses_that_are_not_alike(self):
        one, other = (("a", "b", "c"), ("c", "b", "a")), (("a", "b", "c"), ("c", "a", "b"))
        both = (self.covers_that_there_are(one, other), self.covers_that_there_are(other, one))
        for loose in combinations(sorted(crests(one)), 2):
            self.assertIs(accepts(("fewest", text_of(one), 2), (text_of(other), both, loose)), False)


def all_rows(row):
    """All rows of the things of this one, ascending."""
    return [rows[0] for rows in all_houses(tuple(sorted(row))) if len(rows) == 1]


if __name__ == "__main__":
    unittest.main()
