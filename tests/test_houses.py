import unittest

from by_rows import (
    OF_FEW, SOME_OF_FIVE, SOME_OF_FOUR, TEN, THREE, all_houses, crests, fewest, house_of, is_part, joining, rows_in,
    some_rows, table, taken,
)
from menuhouses.errors import (
    InvalidMenu, InvalidRankings, InvalidRow, InvalidText, NoHouse, NotAHouse, OtherThings, TooMany, UnknownThing,
)
from menuhouses.houses import House
from menuhouses.rankings import Ranking
from support import assert_index, assert_keeps, menus_of, odd_values, raised, rows_of

OF_THREE = all_houses(THREE)
EACH = OF_FEW + OF_THREE + SOME_OF_FOUR + SOME_OF_FIVE
TABLES = {rows: table(rows) for rows in EACH}
FIVE = TEN[:5]
MANY = sorted(rows_of(FIVE))


class MakingHouses(unittest.TestCase):
    def assert_is(self, house, rows):
        self.assertIs(house.__class__, House)
        self.assertIs(house.rankings.__class__, tuple)
        self.assertEqual(rows_in(house), tuple(sorted(set(rows))))
        self.assertTrue(all(ranking.__class__ is Ranking for ranking in house.rankings))
        self.assertEqual(house.things, tuple(sorted(rows[0])))
        self.assertIs(house.things.__class__, tuple)
        self.assertEqual(len(house), len(set(rows)))
        self.assertEqual(str(house), "; ".join(" ".join(row) for row in sorted(set(rows))))
        self.assertEqual(repr(house), f"House of {len(set(rows))} rankings")
        self.assertTrue(house)

    def test_made_of_rankings_in_any_order(self):
        for rows in EACH:
            self.assert_is(house_of(rows), rows)
            self.assert_is(house_of(rows[::-1]), rows)
            self.assert_is(house_of(rows + rows[:1]), rows)
            self.assert_is(house_of(rows + rows), rows)

    def test_rankings_are_passed_by_position_alone(self):
        with self.assertRaises(TypeError):
            House(rankings=(Ranking.of("a"),))

    def test_made_of_its_text(self):
        for rows in EACH:
            text = str(house_of(rows))
            self.assert_is(House.read(text), rows)
            self.assert_is(House.read(text=text), rows)

    def test_rows_are_put_in_order_as_tuples_of_names(self):
        self.assert_is(House(Ranking.of("a1", "a"), Ranking.of("a", "a1")), (("a", "a1"), ("a1", "a")))
        self.assert_is(House.read("a a1; a1 a"), (("a", "a1"), ("a1", "a")))
        assert_keeps(self, InvalidText, "given", "a1 a; a a1", House.read, "a1 a; a a1")

    def test_properties_are_not_assigned(self):
        house = House.read("a b; b a")
        for name in ("rankings", "things"):
            with self.assertRaises(AttributeError):
                setattr(house, name, ())
        self.assert_is(house, (("a", "b"), ("b", "a")))

    def test_each_listed_method_stands_in_the_class(self):
        listed = ["__init__", "read", "rankings", "things", "__call__", "within", "without", "__or__", "__and__",
                  "__contains__", "table", "__len__", "__str__", "__repr__", "__eq__"]
        self.assertEqual([name for name in listed if name not in vars(House)], [])
        self.assertEqual(House.__module__, "menuhouses.houses")


class RefusedRankings(unittest.TestCase):
    def test_none(self):
        assert_index(self, InvalidRankings, None, House)

    def test_values_that_are_no_rankings(self):
        good = Ranking.of("b", "a"), Ranking.of("a", "b"), Ranking.of("b", "a")
        for value in odd_values() + ["a b", ("a", "b"), House(*good), 0]:
            for at in range(4):
                assert_index(self, InvalidRankings, at, House, *good[:at], value, *good[at:])
        assert_index(self, InvalidRankings, 0, House, good)
        assert_index(self, InvalidRankings, 1, House, good[0], None, 5, Ranking.of("c"))

    def test_rankings_of_other_things(self):
        good = Ranking.of("b", "a"), Ranking.of("a", "b"), Ranking.of("b", "a")
        for names in (("a",), ("b",), ("a", "c"), ("a", "b", "c"), ("a1", "b")):
            for at in range(1, 4):
                assert_index(self, InvalidRankings, at, House, *good[:at], Ranking(names), *good[at:])
            assert_index(self, InvalidRankings, 1, House, Ranking(names), *good)

    def test_more_than_24_different_ones(self):
        for many in (25, 26, 120):
            rankings = [Ranking(row) for row in MANY[:many]]
            self.assertEqual(raised(self, TooMany, House, *rankings), {"number": many})
            self.assertEqual(raised(self, TooMany, House, *rankings, *rankings), {"number": many})
        self.assertEqual(len(house_of(MANY[:24])), 24)
        self.assertEqual(len(house_of(MANY[:24] * 3)), 24)

    def test_too_many_is_told_last(self):
        rankings = [Ranking(row) for row in MANY[:30]]
        for value in (None, Ranking.of("a"), "a b c d e"):
            assert_index(self, InvalidRankings, 30, House, *rankings, value)


class RefusedTexts(unittest.TestCase):
    def assert_refused(self, text):
        assert_keeps(self, InvalidText, "given", text, House.read, text)
        assert_keeps(self, InvalidText, "given", text, House.read, text=text)

    def test_rankings_that_do_not_ascend(self):
        for text in ("b a; a b", "a b; a b", "a b c; a c b; a b c", "a b c; b a c; a c b", "a; a"):
            self.assert_refused(text)

    def test_rankings_of_other_things(self):
        for text in ("a b; b", "a b; b c", "a; b", "a; a b", "a b; a b c", "a b; b a; c a", "a b; c"):
            self.assert_refused(text)

    def test_other_signs(self):
        for text in ("", ";", "; ", "a b;", "a b; ", "; a b", "a b;b a", "a b;  b a", "a b ; b a", "a b, b a",
                     "a b\nb a", "a b; b a\n", " a b", "a  b", "a b; b a ", "A b; b A", "a a", "a b; b b", "a b;\nb a",
                     "House of 2 rankings", "a b; b a; ", "a b c; c; b", "a+ b-", "a" * 4000, "; " * 2000):
            self.assert_refused(text)

    def test_more_rankings_or_things_than_may_be(self):
        self.assert_refused(str(Ranking(TEN)) + " k")
        for many in (25, 60):
            self.assert_refused("; ".join(" ".join(row) for row in MANY[:many]))
        self.assertEqual(len(House.read("; ".join(" ".join(row) for row in MANY[:24]))), 24)

    def test_values_that_are_no_strings(self):
        for value in odd_values() + [("a", "b"), 0, b"a b", Ranking.of("a"), House.read("a")]:
            if not isinstance(value, str):
                self.assert_refused(value)


class Taking(unittest.TestCase):
    def test_each_one_takes_the_best_thing(self):
        for rows in EACH:
            house = house_of(rows)
            for menu, told in TABLES[rows].items():
                self.assertEqual(house(menu), told)
                self.assertEqual(house(menu=menu), told)
                self.assertIs(house(menu).__class__, tuple)

    def test_houses_of_ten_things(self):
        for many in (1, 2, 7, 24):
            rows = some_rows(10, many, 0)
            house = house_of(rows)
            for menu in menus_of(TEN):
                self.assertEqual(house(menu), taken(rows, menu))

    def test_no_tuple_or_an_empty_one(self):
        house = House.read("a b c; c b a")
        for value in [["a"], ["a", "b"], "a", "ab", house] + odd_values():
            if not isinstance(value, tuple) or value == ():
                assert_index(self, InvalidMenu, None, house, value)
                assert_index(self, InvalidMenu, None, house, menu=value)

    def test_other_menus(self):
        house = House.read("a b c; c b a")
        for value in odd_values() + ["d", "ab", 0, ("a",), Ranking.of("a")]:
            assert_index(self, InvalidMenu, 0, house, (value,))
            assert_index(self, InvalidMenu, 2, house, ("a", "b", value))
        faults = [(("b", "a"), 1), (("a", "a"), 1), (("a", "c", "b"), 2), (("a", "b", "c", "c"), 3), (("b", "a", "d"), 1),
                  (("d", "b", "a"), 0), (("a", "c", 5, "b"), 2)]
        for menu, index in faults:
            assert_index(self, InvalidMenu, index, house, menu)


class Orders(unittest.TestCase):
    def assert_order(self, one, other):
        first, second = house_of(one), house_of(other)
        self.assertIs(first.within(second), is_part(TABLES[one], TABLES[other]))
        self.assertIs(first == second, TABLES[one] == TABLES[other])
        self.assertIs(first != second, TABLES[one] != TABLES[other])

    def test_all_houses_of_up_to_three_things(self):
        for things in (1, 2, 3):
            rows = [each for each in OF_FEW + OF_THREE if len(each[0]) == things]
            for one in rows:
                for other in rows:
                    self.assert_order(one, other)

    def test_some_houses_of_four_and_five_things(self):
        for rows in (SOME_OF_FOUR, SOME_OF_FIVE):
            for one in rows:
                for other in rows:
                    self.assert_order(one, other)

    def test_a_house_is_within_what_it_is_a_part_of(self):
        for rows in SOME_OF_FOUR + SOME_OF_FIVE:
            for at in range(0, len(rows), 3):
                part = house_of(rows[at:at + 2])
                self.assertIs(part.within(house_of(rows)), True)
                self.assertIs(part.within(other=house_of(rows)), True)

    def test_houses_of_ten_things(self):
        rows = some_rows(10, 24, 1)
        house = house_of(rows)
        for at in range(24):
            less = rows[:at] + rows[at + 1:]
            alike = all(taken(less, menu) == taken(rows, menu) for menu in menus_of(TEN))
            self.assertIs(house_of(less) == house, alike)
            self.assertIs(house.within(house_of(less)), alike)
            self.assertIs(house_of(less).within(house), True)

    def test_never_equal_to_other_values(self):
        house = House.read("a")
        for value in odd_values() + [0, "a", ("a",), Ranking.of("a"), (Ranking.of("a"),), "House of 1 rankings"]:
            self.assertIs(house == value, False)
            self.assertIs(house != value, True)

    def test_other_things_make_other_houses(self):
        for one, other in (("a", "b"), ("a b", "a c"), ("a b; b a", "a c; c a"), ("a b", "a")):
            self.assertIs(House.read(one) == House.read(other), False)
            self.assertIs(House.read(one) != House.read(other), True)

    def test_no_house_or_other_things(self):
        house = House.read("a b; b a")
        for value in odd_values() + [0, "a b", Ranking.of("a", "b"), house.rankings]:
            for action in (house.within, house.__or__, house.__and__):
                assert_keeps(self, NotAHouse, "given", value, action, value)
            assert_keeps(self, NotAHouse, "given", value, house.within, other=value)
        for text in ("a", "b", "a c", "a b c", "a c; c a"):
            other = House.read(text)
            for action in (house.within, house.__or__, house.__and__):
                self.assertEqual(raised(self, OtherThings, action, other), {"given": other.things})
            self.assertEqual(raised(self, OtherThings, lambda: other | house), {"given": ("a", "b")})


class Joining(unittest.TestCase):
    def test_rankings_that_may_join_are_in_it(self):
        for rows in EACH:
            house = house_of(rows)
            may = set(joining([TABLES[rows]]))
            for row in rows_of(house.things):
                self.assertIs(Ranking(row) in house, row in may)
                self.assertIs(Ranking(row) not in house, row not in may)

    def test_in_houses_of_ten_things(self):
        rows = some_rows(10, 4, 2)
        house = house_of(rows)
        for row in rows + some_rows(10, 20, 3) + (rows[0][:6] + rows[0][:5:-1],):
            may = all(min(menu, key=row.index) in taken(rows, menu) for menu in menus_of(TEN))
            self.assertIs(Ranking(row) in house, may)

    def test_other_values_are_not_in_it(self):
        house = House.read("a b; b a")
        for value in odd_values() + [0, "a", "a b", ("a", "b"), house, Ranking.of("a"), Ranking.of("a", "c"),
                                     Ranking.of("a", "b", "c"), Ranking.of("b")]:
            self.assertIs(value in house, False)
            self.assertIs(value not in house, True)


class Both(unittest.TestCase):
    def assert_union(self, one, other):
        all_rows = tuple(sorted(set(one + other)))
        first, second = house_of(one), house_of(other)
        if len(all_rows) > 24:
            self.assertEqual(raised(self, TooMany, lambda: first | second), {"number": len(all_rows)})
        else:
            both = first | second
            self.assertIs(both.__class__, House)
            self.assertEqual(rows_in(both), all_rows)
        self.assertEqual((rows_in(first), rows_in(second)), (one, other))

    def assert_common(self, one, other):
        first, second = house_of(one), house_of(other)
        may = joining([TABLES[one], TABLES[other]])
        if may:
            common = first & second
            self.assertIs(common.__class__, House)
            self.assertEqual(table(rows_in(common)), table(may))
            self.assertTrue(set(rows_in(common)) <= set(may))
            return common
        menu = raised(self, NoHouse, lambda: first & second)["menu"]
        self.assertIn(menu, TABLES[one])
        self.assertEqual(set(TABLES[one][menu]) & set(TABLES[other][menu]), set())
        return None

    def test_houses_of_up_to_three_things(self):
        least = {}
        for things in (1, 2, 3):
            rows = [each for each in OF_FEW + OF_THREE if len(each[0]) == things]
            for one in rows:
                for other in rows:
                    self.assert_union(one, other)
                    common = self.assert_common(one, other)
                    if common is not None:
                        may = rows_in(common)
                        if may not in least:
                            least[may] = fewest(may)
                        self.assertEqual(len(may), least[may])
        self.assertEqual(sorted(set(least.values())), [1, 2, 3])

    def test_houses_of_four_things(self):
        for at, one in enumerate(SOME_OF_FOUR):
            for other in SOME_OF_FOUR[at % 3::3]:
                self.assert_union(one, other)
                common = self.assert_common(one, other)
                if common is not None and at % 5 == 0:
                    self.assertEqual(len(common), fewest(rows_in(common)))

    def test_houses_of_five_things(self):
        for one in SOME_OF_FIVE:
            for other in SOME_OF_FIVE:
                self.assert_union(one, other)
                self.assert_common(one, other)

    def test_too_many_is_told_last(self):
        one, other = house_of(MANY[:24]), house_of(MANY[24:48])
        self.assertEqual(raised(self, TooMany, lambda: one | other), {"number": 48})
        self.assertEqual(len(one | one), 24)
        strange = House(*[Ranking(tuple(row) + ("f",)) for row in MANY[:24]])
        self.assertEqual(raised(self, OtherThings, lambda: one | strange), {"given": strange.things})

    def test_with_itself_it_is_alike(self):
        for rows in EACH:
            house = house_of(rows)
            self.assertTrue((house & house) == house)
            self.assertEqual(rows_in(house | house), rows)

    def test_the_menu_without_anything_in_common(self):
        for one, other, menu in (("a b", "b a", ("a", "b")), ("c a b", "c b a", ("a", "b")),
                                 ("a b c; b a c", "c a b; c b a", None)):
            first, second = House.read(one), House.read(other)
            for action in (lambda: first & second, lambda: second & first):
                kept = raised(self, NoHouse, action)
                self.assertEqual(list(kept), ["menu"])
                self.assertIn(kept["menu"], menus_of(first.things))
                self.assertEqual(set(first(kept["menu"])) & set(second(kept["menu"])), set())
                self.assertIn(menu, (None, kept["menu"]))
            self.assertEqual((str(first), str(second)), (one, other))

    def test_nothing_in_common_of_ten_things(self):
        house = House(Ranking(TEN))
        menu = raised(self, NoHouse, lambda: house & House(-Ranking(TEN)))["menu"]
        self.assertGreaterEqual(len(menu), 2)
        self.assertEqual(menu, tuple(sorted(set(menu))))

    def test_a_common_house_of_more_than_24(self):
        one, other = crossed("abcd", "efgh"), crossed("efgh", "abcd")
        number = raised(self, TooMany, lambda: one & other)["number"]
        # The crests of i with two of the first four things and two of the others are 36, and loose.
        self.assertEqual(number, 36)
        self.assertEqual(raised(self, TooMany, lambda: other & one), {"number": 36})


def crossed(free, other):
    """A house that takes i only when two of the free things are gone, and each other thing from every menu."""
    rows = []
    for at, first in enumerate(free):
        for second in free[at + 1:]:
            left = [thing for thing in free if thing not in (first, second)]
            rows.append((first, second, "i", *other, *left))
    last = tuple(reversed(free))
    rows.append((last[0], *last[1:], *other, "i"))
    for thing in other:
        rows.append((thing, *[each for each in other if each != thing], *free, "i"))
    return house_of(rows)


class Without(unittest.TestCase):
    def test_without_some_things(self):
        for rows in EACH:
            house = house_of(rows)
            self.assertEqual(rows_in(house.without()), rows)
            for names in menus_of(house.things):
                if len(names) < len(house.things):
                    left = {tuple(thing for thing in row if thing not in names) for row in rows}
                    for told in (names, names[::-1], names + names):
                        self.assertIs(house.without(*told).__class__, House)
                        self.assertEqual(rows_in(house.without(*told)), tuple(sorted(left)))
            self.assertEqual(rows_in(house), rows)

    def test_without_all_things(self):
        for rows in OF_FEW + OF_THREE:
            assert_index(self, InvalidRow, None, house_of(rows).without, *rows[0])
            assert_index(self, InvalidRow, None, house_of(rows).without, *(rows[0] + rows[0]))

    def test_without_what_is_no_thing(self):
        house = House.read("a b; b a")
        for value in odd_values() + ["c", 0, ("a", "b"), Ranking.of("a"), house]:
            for names in ((value,), ("a", value), (value, "c", "a"), ("b", "a", value), ("a", value, None)):
                assert_keeps(self, UnknownThing, "given", value, house.without, *names)

    def test_names_are_passed_by_position_alone(self):
        with self.assertRaises(TypeError):
            House.read("a b").without(names=("a",))


class Tables(unittest.TestCase):
    def test_a_line_for_each_thing(self):
        for rows in EACH + [some_rows(10, 24, 5)]:
            own = crests(rows)
            lines = []
            for thing in sorted(rows[0]):
                firsts = len([row for row in rows if row[0] == thing])
                many = len([each for each, _ in own if each == thing])
                lines.append(thing + " " * (8 - len(thing)) + f"{firsts:5}" + f"{many:5}")
            self.assertEqual(house_of(rows).table(), "\n".join(lines))

    def test_longer_names_and_greater_numbers(self):
        self.assertEqual(House.read("longname x1").table(), "longname    1    1\nx1          0    1")
        rows = [row for row in MANY if row[0] == "e"]
        self.assertEqual(house_of(rows).table().split("\n")[-1], "e          24    1")


class Twice(unittest.TestCase):
    def test_asking_twice_tells_the_same(self):
        one, other = House.read("a b c; c a b"), House.read("a b c; c b a")
        for _ in range(2):
            self.assertEqual(one(("a", "c")), ("a", "c"))
            self.assertEqual(str(one | other), "a b c; c a b; c b a")
            self.assertEqual(str(one & other), str(House.read("a b c; c a b") & House.read("a b c; c b a")))
            self.assertEqual(str(one.without("b")), "a c; c a")
            self.assertIs(one.within(other), True)
            self.assertIs(other.within(one), False)
            self.assertEqual(raised(self, InvalidMenu, one, ("c", "a")), {"index": 1})
            self.assertEqual((str(one), str(other)), ("a b c; c a b", "a b c; c b a"))


if __name__ == "__main__":
    unittest.main()
