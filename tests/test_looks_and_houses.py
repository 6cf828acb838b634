"""Looks at menus of up to three things against all houses of these things."""

import unittest
from itertools import combinations, product
from random import Random

from menuhouses.errors import Clash
from menuhouses.houses import House
from menuhouses.looks import Look, Looks
from menuhouses.rankings import Ranking
from by_looks import TABLES, all_looks, has, houses_that_fit
from by_rows import TEN
from support import assert_index, menus_of


class LooksAndHouses(unittest.TestCase):
    def assert_all(self, things, each):
        """All that Looks tell of these looks."""
        many = len(things)
        looks = Looks(things, each)
        houses = houses_that_fit(many, each)
        self.assertIs(looks.fit, bool(houses))
        self.assert_alone(looks, houses)
        self.assert_back(many, looks)
        if houses:
            self.assert_answers(looks, [TABLES[many][rows] for rows in houses])
            self.assert_people(looks, houses)
        else:
            self.assert_clashing(many, looks)

    def assert_answers(self, looks, tables):
        settled = True
        for menu in menus_of(looks.things):
            told = {each[menu] for each in tables}
            marks = ""
            for thing in menu:
                with_it = [some for some in told if thing in some]
                answer = "never" if not with_it else "surely" if len(with_it) == len(told) else "perhaps"
                self.assertEqual(looks.answer(menu, thing), answer)
                marks += {"surely": "+", "never": "-", "perhaps": "?"}[answer]
            self.assertEqual(looks.look(menu), Look(menu, marks))
            for taken in menus_of(menu):
                self.assertIs(looks.can_be(menu, taken), taken in told)
            settled = settled and len(told) == 1
        self.assertIs(looks.settled(), settled)

    def assert_people(self, looks, houses):
        people = looks.people()
        self.assertIs(people.__class__, tuple)
        self.assertTrue(all(ranking.__class__ is Ranking for ranking in people))
        rows = tuple(ranking.row for ranking in people)
        self.assertEqual(rows, tuple(sorted(set(rows))))
        self.assertIn(rows, houses)
        needs = sum(look.marks.count("+") for look in looks.looks)
        self.assertLessEqual(len(rows), max(needs, 1))
        self.assertTrue(all(look.holds(House(*people)) for look in looks.looks))

    def assert_alone(self, looks, houses):
        alone = looks.alone()
        if any(len(rows) == 1 for rows in houses):
            self.assertIs(alone.__class__, Ranking)
            self.assertIn((alone.row,), houses)
        else:
            self.assertIs(alone, None)

    def assert_back(self, many, looks):
        indexes = range(len(looks.looks))
        for size in range(len(looks.looks) + 1):
            for some in combinations(indexes, size):
                if houses_that_fit(many, [look for at, look in enumerate(looks.looks) if at not in some]):
                    self.assertEqual(looks.fewest_back(), some)
                    return

    def assert_clashing(self, many, looks):
        for size in range(1, len(looks.looks) + 1):
            if not houses_that_fit(many, looks.looks[:size]):
                menu = looks.things[:1]
                actions = [looks.settled, looks.people, lambda: looks.look(menu), lambda: looks.can_be(menu, menu),
                           lambda: looks.answer(menu, menu[0])]
                for action in actions:
                    assert_index(self, Clash, size - 1, action)
                break
        clash = looks.clash()
        self.assertEqual(clash, self.first_that_clash(many, looks.looks))
        self.assertEqual(looks.without(*clash).and_seen(*[looks.looks[at] for at in clash]).fit, False)

    def first_that_clash(self, many, looks):
        for size in range(1, len(looks) + 1):
            for some in combinations(range(len(looks)), size):
                if not houses_that_fit(many, [looks[at] for at in some]):
                    return some
        return None

    def test_none(self):
        for many in (1, 2, 3):
            self.assert_all(TEN[:many], ())
            self.assertIs(Looks(TEN[:many]).clash(), None)

    def test_all_looks(self):
        for many, told in ((1, 2), (2, 12), (3, 56)):
            looks = all_looks(TEN[:many])
            self.assertEqual(len(looks), told)
            for look in looks:
                self.assert_all(TEN[:many], (look,))

    def test_all_pairs_of_looks(self):
        for many in (1, 2, 3):
            for each in product(all_looks(TEN[:many]), repeat=2):
                self.assert_all(TEN[:many], each)

    def test_all_triples_of_looks_at_two_things(self):
        for each in product(all_looks(TEN[:2]), repeat=3):
            self.assert_all(TEN[:2], each)

    def test_some_rows_of_looks_at_three_things(self):
        chance = Random("looks at three things")
        each = all_looks(TEN[:3])
        for _ in range(600):
            self.assert_all(TEN[:3], tuple(chance.choices(each, k=chance.choice((3, 3, 3, 4, 4, 5)))))
        for _ in range(40):
            self.assert_all(TEN[:3], tuple(chance.choices(each, k=chance.choice((6, 7)))))

    def test_looks_that_a_house_has(self):
        chance = Random("looks that a house has")
        each = all_looks(TEN[:3])
        for rows, told in TABLES[3].items():
            own = [look for look in each if has(told, look)]
            for many in (3, 5, 8, 12):
                looks = Looks(TEN[:3], tuple(chance.choices(own, k=many)))
                houses = houses_that_fit(3, looks.looks)
                self.assertIn(rows, houses)
                self.assertIs(looks.fit, True)
                self.assertIs(looks.clash(), None)
                self.assertEqual(looks.fewest_back(), ())
                self.assert_answers(looks, [TABLES[3][each] for each in houses])
                self.assert_people(looks, houses)
                self.assert_alone(looks, houses)

    def test_all_looks_at_what_is_just_taken_settle(self):
        for rows, told in TABLES[3].items():
            looks = Looks(TEN[:3], tuple(Look.just(menu, taken) for menu, taken in told.items()))
            self.assertIs(looks.settled(), True)
            self.assertTrue(House(*looks.people()) == House(*[Ranking(row) for row in rows]))


if __name__ == "__main__":
    unittest.main()
