import unittest
from itertools import combinations, product
from random import Random

from menuhouses.comparing import fewest_house
from menuhouses.errors import InvalidTable, InvalidThings, NotAHouse, NoTable, TooMany
from menuhouses.houses import House
from menuhouses.rankings import Ranking
from menuhouses.tables import house_of, table_of
from by_rows import (
    OF_FEW, SOME_OF_FIVE, SOME_OF_FOUR, TEN, THREE, all_houses, are_loose, crests, fewest, rows_in, some_rows, table,
)
from by_rows import house_of as house_of_rows
from support import Agreeable, assert_index, assert_keeps, menus_of, odd_values, raised

# All of three things, and drawn ones of four and five.
ROWS = OF_FEW + all_houses(THREE) + SOME_OF_FOUR + SOME_OF_FIVE


def table_told(rows):
    """The table as a tuple, in ascending order of the menus."""
    return tuple(sorted(table(rows).items()))


def are_at_fault(told, first, second):
    """What the document says of the two menus of NoTable."""
    first_taken, second_taken = set(dict(told)[first]), set(dict(told)[second])
    if not set(second) <= set(first):
        return False
    if any(thing in first_taken and thing not in second_taken for thing in second):
        return True
    return first_taken <= set(second) and bool(second_taken - first_taken)


def most_loose(rows):
    """The most crests of a house with these rows that are loose together, if these are few."""
    pairs = crests(rows)
    return max(many for many in range(len(pairs) + 1) if any(are_loose(some) for some in combinations(pairs, many)))


class ThereAndBack(unittest.TestCase):
    def assert_back(self, things, told, rows):
        """The house with this table takes the same as that of the rows, and has no more rankings than are needed."""
        house = house_of(things, told)
        self.assertIs(house.__class__, House)
        self.assertEqual(table_told(rows_in(house)), told)
        self.assertLessEqual(len(house), len(fewest_house(house_of_rows(rows))))
        return house

    def test_there(self):
        for rows in ROWS:
            told = table_of(house_of_rows(rows))
            self.assertEqual(told, table_told(rows))
            self.assertEqual([menu for menu, _ in told], sorted(menus_of(tuple(sorted(rows[0])))))
            self.assertTrue(all(part.__class__ is tuple for pair in (told,) + told for part in pair))
            self.assertEqual(table_of(house=house_of_rows(rows)), told)

    def test_back(self):
        for rows in ROWS:
            things, told = tuple(sorted(rows[0])), table_told(rows)
            house = self.assert_back(things, told, rows)
            self.assertEqual(rows_in(house_of(things=things, table=told)), rows_in(house))

    def test_as_few_rankings_as_can_be(self):
        for rows in OF_FEW + all_houses(THREE):
            self.assertEqual(len(house_of(tuple(sorted(rows[0])), table_told(rows))), fewest(rows))
        for rows in SOME_OF_FOUR[:30:3] + SOME_OF_FIVE[:6:2]:
            self.assertEqual(len(house_of(tuple(sorted(rows[0])), table_told(rows))), most_loose(rows))

    def test_all_taken_or_one_alone(self):
        everything = tuple((menu, menu) for menu in sorted(menus_of(TEN[:5])))
        house = house_of(TEN[:5], everything)
        self.assertEqual((len(house), table_of(house)), (5, everything))
        last = tuple((menu, menu[-1:]) for menu in sorted(menus_of(TEN[:5])))
        self.assertEqual(str(house_of(TEN[:5], last)), "e d c b a")

    def test_other_names(self):
        house = House.read("b2 a longname; longname a b2")
        self.assertEqual(dict(table_of(house))["a", "b2", "longname"], ("b2", "longname"))
        self.assertTrue(house_of(house.things, table_of(house)) == house)

    def test_all_tables_of_three_things(self):
        for things in (TEN[:1], TEN[:2], THREE):
            menus = sorted(menus_of(things))
            known = {table_told(rows): rows for rows in all_houses(things)}
            told_by_none = 0
            for some in product(*[menus_of(menu) for menu in menus]):
                told = tuple(zip(menus, some))
                if told in known:
                    self.assert_back(things, told, known[told])
                else:
                    told_by_none += 1
                    self.assert_no_table(things, told)
            self.assertEqual(told_by_none, {1: 0, 2: 0, 3: 189 - len(known)}[len(things)])

    def assert_no_table(self, things, told):
        kept = raised(self, NoTable, house_of, things, told)
        self.assertEqual(list(kept), ["first", "second"])
        self.assertTrue(are_at_fault(told, kept["first"], kept["second"]), (told, kept))
        self.assertEqual(raised(self, NoTable, house_of, things=things, table=told), kept)

    def test_tables_with_some_entries_changed(self):
        chance, none, some = Random("tables"), 0, 0
        for rows in SOME_OF_FOUR + SOME_OF_FIVE:
            things = tuple(sorted(rows[0]))
            for many in (1, 1, 1, 1, 2, 3):
                told = list(table_told(rows))
                for at in chance.sample(range(len(told)), many):
                    told[at] = (told[at][0], chance.choice(menus_of(told[at][0])))
                told = tuple(told)
                if any(are_at_fault(told, *pair) for pair in product(menus_of(things), repeat=2)):
                    none += 1
                    self.assert_no_table(things, told)
                else:
                    some += 1
                    self.assertEqual(table_of(house_of(things, told)), told)
        self.assertGreater(min(none, some), 30)

    def test_tables_at_random(self):
        chance = Random("more tables")
        for things in (TEN[:4], TEN[:5]):
            for _ in range(60):
                told = tuple((menu, chance.choice(menus_of(menu))) for menu in sorted(menus_of(things)))
                self.assert_no_table(things, told)

    def test_each_of_the_two_faults(self):
        free = {menu: menu for menu in menus_of(THREE)}
        pairs = [
            # From the first one a is taken, from the second one it is not.
            ({("a", "b"): ("b",)}, THREE, ("a", "b")),
            # From the first one only a is taken, from the second one b, too.
            ({THREE: ("a",), ("a", "c"): ("a",)}, THREE, ("a", "b")),
        ]
        for changed, first, second in pairs:
            told = tuple(sorted({**free, **changed}.items()))
            self.assertEqual(raised(self, NoTable, house_of, THREE, told), {"first": first, "second": second})


class Refused(unittest.TestCase):
    def test_no_houses(self):
        for value in odd_values() + [0, "a b", Ranking(THREE), ("a b",), House]:
            assert_keeps(self, NotAHouse, "given", value, table_of, value)
            assert_keeps(self, NotAHouse, "given", value, table_of, house=value)

    def test_houses_of_more_things(self):
        for many in range(6, 11):
            house = house_of_rows(some_rows(many, 5, 1))
            self.assertEqual(raised(self, TooMany, table_of, house), {"number": many})
            self.assertEqual(raised(self, TooMany, table_of, house=house), {"number": many})
        table_of(house_of_rows(some_rows(5, 5, 1)))

    def test_things_that_are_none(self):
        faults = [((), None), (["a"], None), ("a", None), (("A",), 0), (("b", "a"), 1), (("a", "a"), 1), (("a", 5), 1),
                  (("a", "c", "b", "A"), 2), (TEN[:6], 5), (TEN, 5), (TEN[:5] + (5,), 5), (TEN[:5] + ("a",), 5),
                  (TEN[:4] + ("d", "e"), 4), (TEN[:4] + ("D", "e", "f"), 4), (TEN + ("k",), 5), (TEN[:7] + ("A",), 5)]
        faults = faults + [(value, None) for value in odd_values() if not isinstance(value, tuple)]
        faults = faults + [((value,), 0) for value in odd_values()] + [(("a", value), 1) for value in odd_values()]
        faults = faults + [(TEN[:5] + (value,), 5) for value in odd_values()]
        for value, index in faults:
            for told in ((), None, table_told([THREE])):
                assert_index(self, InvalidThings, index, house_of, value, told)
                assert_index(self, InvalidThings, index, house_of, things=value, table=told)

    def test_what_is_no_table(self):
        told = table_told([THREE])
        for value in odd_values() + [list(told), dict(told), "a", 0, House.read("a b c")]:
            if not isinstance(value, tuple):
                assert_index(self, InvalidTable, None, house_of, THREE, value)
                assert_index(self, InvalidTable, None, house_of, things=THREE, table=value)
        assert_index(self, InvalidTable, 0, house_of, THREE, ())

    def test_too_few_and_too_many(self):
        for rows in (SOME_OF_FOUR[8], SOME_OF_FIVE[5], all_houses(THREE)[40], (("a",),)):
            things, told = tuple(sorted(rows[0])), table_told(rows)
            for many in range(len(told)):
                assert_index(self, InvalidTable, many, house_of, things, told[:many])
            for value in odd_values() + [told[0], told[-1], (things, things)]:
                assert_index(self, InvalidTable, len(told), house_of, things, told + (value,))
                assert_index(self, InvalidTable, len(told), house_of, things, told + (value, value))

    def test_one_left_out_put_in_or_exchanged(self):
        things, told = TEN[:4], table_told(SOME_OF_FOUR[20])
        for at in range(len(told)):
            if at < len(told) - 1:
                assert_index(self, InvalidTable, at, house_of, things, told[:at] + told[at + 1:])
            assert_index(self, InvalidTable, at + 1, house_of, things, told[:at + 1] + told[at:])
            for other in range(at):
                changed = list(told)
                changed[at], changed[other] = told[other], told[at]
                assert_index(self, InvalidTable, other, house_of, things, tuple(changed))

    def test_wrong_entries(self):
        told = table_told([THREE, THREE[::-1]])
        for at, (menu, some) in enumerate(told):
            wrong = odd_values() + [
                (), (menu,), (menu, some, some), [menu, some], (list(menu), some), (menu, list(some)), (menu, ()),
                (menu, some + some), (menu, ("d",)), (menu, some + ("d",)), (some + ("d",), some), (menu, menu[::-1] * 2),
                ((), some), (some, menu) if some != menu else None, (menu[0], some), (menu, some[0]), (menu, None),
                (menu, Agreeable()), (Agreeable(), some), (menu, (Agreeable(),)), ((Agreeable(),) * len(menu), some),
                ("".join(menu), some), (menu[:-1] + (Agreeable(),), some), {menu: some}, (frozenset(menu), some),
                (menu, tuple(each for each in THREE if each not in menu)), (menu + menu[-1:], some),
            ]
            if len(menu) > 1:
                wrong = wrong + [(menu, menu[::-1]), (menu[::-1], some), (menu[:-1], menu[:-1]), (menu[1:], menu[1:])]
            for value in wrong:
                for behind in (told[at + 1:], (), (None,)):
                    assert_index(self, InvalidTable, at, house_of, THREE, told[:at] + (value,) + behind)

    def test_the_form_comes_before_the_faults(self):
        told = tuple((menu, menu[:1] if menu == THREE else menu[-1:]) for menu in sorted(menus_of(THREE)))
        raised(self, NoTable, house_of, THREE, told)
        assert_index(self, InvalidTable, 7, house_of, THREE, told + (None,))
        assert_index(self, InvalidTable, 6, house_of, THREE, told[:6])
        assert_index(self, InvalidTable, 6, house_of, THREE, told[:6] + ((told[6][0], ()),))


if __name__ == "__main__":
    unittest.main()
