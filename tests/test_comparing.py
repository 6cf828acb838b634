import unittest
from inspect import isgenerator
from itertools import combinations, islice
from math import factorial

from by_rows import (
    OF_FEW, SOME_OF_FIVE, SOME_OF_FOUR, TEN, THREE, all_houses, are_loose, crests as crests_by_rows, fewest, house_of,
    joining, parting, rows_in, some_rows, table, taken,
)
from menuhouses import comparing
from menuhouses.comparing import (
    all_joiners, crests, fewest_house, joiner, joiners, loose_crests, needless, parting_menu,
)
from menuhouses.errors import InvalidIndex, NotAHouse, OtherThings, UnknownThing
from menuhouses.houses import House
from menuhouses.rankings import Ranking
from support import assert_keeps, menus_of, odd_values, raised

OF_THREE = all_houses(THREE)
EACH = OF_FEW + OF_THREE + SOME_OF_FOUR + SOME_OF_FIVE
TABLES = {rows: table(rows) for rows in EACH}
OF_TEN = [some_rows(10, many, seed) for many in (1, 2, 5, 24) for seed in range(2)]
FIRSTS = tuple((thing, *[other for other in TEN if other != thing]) for thing in TEN)


class Crests(unittest.TestCase):
    def test_each_crest(self):
        for rows in EACH + OF_TEN:
            self.assertEqual(crests(house_of(rows)), crests_by_rows(rows))
            self.assertEqual(crests(house=house_of(rows)), crests_by_rows(rows))

    def test_they_tell_what_is_taken(self):
        for rows in OF_TEN[::3]:
            own = crests(house_of(rows))
            for menu in menus_of(TEN)[::7]:
                told = {thing for thing, each in own if thing in menu and set(menu) - {thing} <= set(each)}
                self.assertEqual(tuple(sorted(told)), taken(rows, menu))

    def test_alike_houses_have_the_same(self):
        for one in OF_THREE:
            for other in OF_THREE:
                same = crests(house_of(one)) == crests(house_of(other))
                self.assertIs(same, TABLES[one] == TABLES[other])


class Fewest(unittest.TestCase):
    def assert_loose(self, rows, many):
        loose = loose_crests(house_of(rows))
        self.assertIs(loose.__class__, tuple)
        self.assertEqual(loose, tuple(sorted(set(loose))))
        self.assertTrue(set(loose) <= set(crests_by_rows(rows)))
        self.assertTrue(are_loose(loose))
        self.assertEqual(len(loose), many)

    def test_against_all_rankings_that_may_join(self):
        known = {}
        for rows in OF_FEW + OF_THREE + SOME_OF_FOUR:
            told = tuple(TABLES[rows].items())
            if told not in known:
                known[told] = fewest(rows)
            house = fewest_house(house_of(rows))
            self.assertIs(house.__class__, House)
            self.assertEqual(table(rows_in(house)), TABLES[rows])
            self.assertEqual(len(house), known[told])
            self.assert_loose(rows, known[told])
        self.assertEqual(sorted(set(known.values())), [1, 2, 3, 4])

    def test_as_many_as_there_are_loose_crests(self):
        # No house that is alike has fewer: each ranking can have but one of crests that are loose.
        for rows in SOME_OF_FIVE + OF_TEN + [FIRSTS]:
            house = house_of(rows)
            least = fewest_house(house=house)
            self.assertEqual(crests_by_rows(rows_in(least)), crests_by_rows(rows))
            self.assertLessEqual(len(least), len(house))
            self.assert_loose(rows, len(least))
            self.assertEqual(loose_crests(house=house), loose_crests(house))
            self.assertEqual(rows_in(house), tuple(sorted(rows)))

    def test_no_greater_rows_of_crests_are_loose(self):
        for rows in OF_THREE + SOME_OF_FOUR[:20:3]:
            own = crests_by_rows(rows)
            more = combinations(own, len(loose_crests(house_of(rows))) + 1)
            self.assertFalse(any(are_loose(pairs) for pairs in more))

    def test_rankings_that_the_house_has_not_may_be_needed(self):
        for text in ("a c d b; c a b d; c d b a", "a d c b; c a b d; c d b a; d a b c"):
            house = House.read(text)
            self.assertEqual(needless(house), ())
            self.assertEqual(len(fewest_house(house)), len(house) - 1)
            self.assertTrue(fewest_house(house) == house)

    def test_houses_of_ten_things(self):
        self.assertEqual(len(fewest_house(House(Ranking(TEN)))), 1)
        self.assertEqual(len(fewest_house(House(Ranking(TEN), -Ranking(TEN)))), 2)
        self.assertEqual(len(fewest_house(house_of(FIRSTS))), 10)
        turned = [TEN[at:] + TEN[:at] for at in range(10)]
        self.assertEqual(len(fewest_house(house_of(turned))), 10)
        swapped = [TEN[:at] + (TEN[at + 1], TEN[at]) + TEN[at + 2:] for at in range(9)]
        self.assertEqual(len(fewest_house(house_of(swapped + [TEN]))), 2)


class Needless(unittest.TestCase):
    def test_each_alone(self):
        for rows in EACH:
            told = []
            for at in range(len(rows)):
                others = rows[:at] + rows[at + 1:]
                if others and table(others) == TABLES[rows]:
                    told.append(rows[at])
            found = needless(house_of(rows))
            self.assertIs(found.__class__, tuple)
            self.assertTrue(all(ranking.__class__ is Ranking for ranking in found))
            self.assertEqual([ranking.row for ranking in found], sorted(told))
            self.assertEqual(len(needless(house=house_of(rows))), len(told))

    def test_one_ranking_is_needed(self):
        for row in [TEN[:many] for many in range(1, 11)]:
            self.assertEqual(needless(House(Ranking(row))), ())

    def test_several_that_are_needless_are_not_so_together(self):
        house = House.read("a b c d; a b d c; b a c d; b a d c")
        self.assertEqual([str(each) for each in needless(house)], str(house).split("; "))


class PartingMenus(unittest.TestCase):
    def assert_parting(self, one, other):
        menu = parting(TABLES[one], TABLES[other])
        self.assertEqual(parting_menu(house_of(one), house_of(other)), menu)
        self.assertEqual(parting_menu(one=house_of(one), other=house_of(other)), menu)

    def test_houses_of_up_to_three_things(self):
        for things in (1, 2, 3):
            rows = [each for each in OF_FEW + OF_THREE if len(each[0]) == things]
            for one in rows:
                for other in rows:
                    self.assert_parting(one, other)

    def test_houses_of_four_and_five_things(self):
        for rows in (SOME_OF_FOUR, SOME_OF_FIVE):
            for one in rows:
                for other in rows:
                    self.assert_parting(one, other)

    def test_houses_of_ten_things(self):
        for one in OF_TEN[:4] + OF_TEN[-1:]:
            first = {menu: taken(one, menu) for menu in menus_of(TEN)}
            for other in OF_TEN[3:]:
                second = {menu: taken(other, menu) for menu in menus_of(TEN)}
                self.assertEqual(parting_menu(house_of(one), house_of(other)), parting(first, second))

    def test_a_great_menu_can_be_the_smallest(self):
        # Without any one of the others the first thing can be taken, but not with all of them.
        rows = [(other, TEN[0], *[each for each in TEN[1:] if each != other]) for other in TEN[1:]]
        self.assertEqual(parting_menu(house_of(FIRSTS), house_of(rows)), TEN)


class Joiners(unittest.TestCase):
    def test_against_all_rankings(self):
        for rows in EACH:
            house = house_of(rows)
            may = joining([TABLES[rows]])
            self.assertEqual(joiners(house), len(may))
            self.assertEqual(joiners(house=house), len(may))
            found = list(all_joiners(house))
            self.assertTrue(all(ranking.__class__ is Ranking for ranking in found))
            self.assertEqual([ranking.row for ranking in found], may)
            self.assertEqual([joiner(house, at).row for at in range(len(may))], may)
            self.assertEqual(joiner(house=house, index=len(may) - 1).row, may[-1])

    def test_those_with_this_best_thing(self):
        for rows in EACH:
            house = house_of(rows)
            may = joining([TABLES[rows]])
            for best in house.things:
                told = [row for row in may if row[0] == best]
                self.assertEqual([ranking.row for ranking in all_joiners(house, best=best)], told)
                self.assertEqual([ranking.row for ranking in all_joiners(house=house, best=best)], told)
            self.assertEqual([ranking.row for ranking in all_joiners(house, best=None)], may)

    def test_best_is_passed_by_name_alone(self):
        with self.assertRaises(TypeError):
            all_joiners(House.read("a"), "a")

    def test_one_ranking_of_ten_things(self):
        for row in (TEN, TEN[::-1]) + some_rows(10, 3, 7):
            house = House(Ranking(row))
            self.assertEqual(joiners(house), 1)
            self.assertEqual(joiner(house, 0).row, row)
            self.assertEqual([ranking.row for ranking in all_joiners(house)], [row])

    def test_a_row_and_itself_turned_about(self):
        for many in range(1, 11):
            house = House(Ranking(TEN[:many]), -Ranking(TEN[:many]))
            self.assertEqual(joiners(house), 2 ** (many - 1))
            found = list(all_joiners(house))
            self.assertEqual(len(found), 2 ** (many - 1))
            self.assertEqual([ranking.row for ranking in found], sorted({ranking.row for ranking in found}))
            self.assertEqual([joiner(house, at).row for at in range(len(found))], [each.row for each in found])
            self.assertEqual(len(list(all_joiners(house, best="a"))), 2 ** (many - 2) if many > 1 else 1)

    def test_each_thing_as_the_first_one(self):
        for many in range(1, 11):
            rows = [(thing, *[other for other in TEN[:many] if other != thing]) for thing in TEN[:many]]
            house = house_of(rows)
            self.assertEqual(joiners(house), factorial(many))
            self.assertEqual(joiner(house, 0).row, TEN[:many])
            self.assertEqual(joiner(house, factorial(many) - 1).row, TEN[:many][::-1])

    def test_of_very_many_only_some_are_asked_for(self):
        house = house_of(FIRSTS)
        told = [TEN, TEN[:8] + ("j", "i"), TEN[:7] + ("i", "h", "j"), TEN[:7] + ("i", "j", "h")]
        self.assertEqual([ranking.row for ranking in islice(all_joiners(house), 4)], told)
        self.assertEqual([joiner(house, at).row for at in range(4)], told)
        last = ("j",) + TEN[:9]
        self.assertEqual(next(iter(all_joiners(house, best="j"))).row, last)
        self.assertEqual(joiner(house, 9 * factorial(9)).row, last)
        self.assertEqual(joiner(house, 5 * factorial(9) + 1).row, ("f", *"abcdeg", "h", "j", "i"))
        self.assertTrue(isgenerator(all_joiners(house)))

    def test_generators_are_new_ones(self):
        house = House.read("a b c; c b a")
        first, second = all_joiners(house), all_joiners(house)
        self.assertEqual([str(next(first)), str(next(first)), str(next(second))], ["a b c", "a c b", "a b c"])


class Refused(unittest.TestCase):
    def test_no_houses(self):
        house = House.read("a b; b a")
        actions = [crests, loose_crests, fewest_house, needless, joiners, lambda house: joiner(house, -1),
                   lambda house: next(all_joiners(house)), lambda house: next(all_joiners(house, best="c")),
                   lambda house: parting_menu(house, 5), lambda house: parting_menu(one=house, other=None)]
        for value in odd_values() + [0, "a b", Ranking.of("a", "b"), house.rankings]:
            for action in actions:
                assert_keeps(self, NotAHouse, "given", value, action, value)
            for action in (crests, loose_crests, fewest_house, needless, joiners):
                assert_keeps(self, NotAHouse, "given", value, action, house=value)
            assert_keeps(self, NotAHouse, "given", value, parting_menu, house, value)

    def test_other_things(self):
        house = House.read("a b; b a")
        for text in ("a", "b", "a c", "a b c", "a c; c a"):
            other = House.read(text)
            self.assertEqual(raised(self, OtherThings, parting_menu, house, other), {"given": other.things})
            self.assertEqual(raised(self, OtherThings, parting_menu, other, house), {"given": ("a", "b")})

    def test_indexes_that_are_none(self):
        house = House.read("a b c; c b a")
        for value in odd_values() + [4, 5, 24, "0", (0,), -4, house]:
            assert_keeps(self, InvalidIndex, "given", value, joiner, house, value)
            assert_keeps(self, InvalidIndex, "given", value, joiner, house=house, index=value)
        many = factorial(10)
        assert_keeps(self, InvalidIndex, "given", many, joiner, house_of(FIRSTS), many)

    def test_best_things_that_are_none(self):
        house = House.read("a b c; c b a")
        for value in odd_values() + ["d", 0, ("a",), Ranking.of("a"), house]:
            if value is not None:
                assert_keeps(self, UnknownThing, "given", value, lambda: next(all_joiners(house, best=value)))


class Twice(unittest.TestCase):
    def test_asking_twice_tells_the_same(self):
        for rows in SOME_OF_FIVE + [FIRSTS]:
            house, again = house_of(rows), house_of(rows[::-1])
            for action in (crests, loose_crests, needless, joiners):
                self.assertEqual(action(house), action(again))
                self.assertEqual(action(house), action(house))
            self.assertEqual(rows_in(fewest_house(house)), rows_in(fewest_house(again)))
            self.assertEqual(joiner(house, 0), joiner(again, 0))
            self.assertEqual(rows_in(house), tuple(sorted(rows)))

    def test_each_function_is_defined_in_the_file(self):
        for action in (crests, loose_crests, fewest_house, needless, parting_menu, joiners, joiner, all_joiners):
            self.assertEqual(action.__module__, comparing.__name__)


if __name__ == "__main__":
    unittest.main()
