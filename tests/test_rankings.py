import unittest

from menuhouses.errors import InvalidIndex, InvalidMenu, InvalidRow, InvalidText, UnknownThing
from menuhouses.rankings import Ranking
from support import Agreeable, Unshowable, assert_index, assert_keeps, menus_of, odd_values, raised, rows_of

TEN = tuple("jabcdefghi")
THINGS = ("a", "b1", "c", "longname")
ROWS = [row for many in range(1, 5) for row in rows_of(THINGS[:many])]


class MakingRankings(unittest.TestCase):
    def assert_is(self, ranking, row):
        self.assertIs(ranking.__class__, Ranking)
        self.assertEqual(ranking.row, row)
        self.assertIs(ranking.row.__class__, tuple)
        self.assertEqual(ranking.things, tuple(sorted(row)))
        self.assertIs(ranking.things.__class__, tuple)
        self.assertEqual(len(ranking), len(row))
        self.assertEqual(str(ranking), " ".join(row))
        self.assertEqual(repr(ranking), "Ranking " + " ".join(row))
        self.assertTrue(ranking)

    def test_made_of_its_row(self):
        for row in ROWS + [TEN]:
            self.assert_is(Ranking(row), row)
            self.assert_is(Ranking(row=row), row)

    def test_made_of_names(self):
        for row in ROWS + [TEN]:
            self.assert_is(Ranking.of(*row), row)

    def test_names_of_a_row_are_passed_by_position_alone(self):
        with self.assertRaises(TypeError):
            Ranking.of(names=("a",))

    def test_made_of_its_text(self):
        for row in ROWS + [TEN]:
            self.assert_is(Ranking.read(" ".join(row)), row)
            self.assert_is(Ranking.read(text=" ".join(row)), row)

    def test_names_go_from_one_to_eight_letters_and_digits(self):
        for name in ("a", "z", "a0", "z9", "abcdefgh", "a1234567", "azaz0909"):
            self.assert_is(Ranking.of(name), (name,))
            self.assert_is(Ranking.read(name), (name,))

    def test_properties_are_not_assigned(self):
        ranking = Ranking.of("b", "a")
        for name in ("row", "things"):
            with self.assertRaises(AttributeError):
                setattr(ranking, name, ("a",))
        self.assert_is(ranking, ("b", "a"))


NO_NAMES = [
    "", "abcdefghi", "A", "aB", "1", "1a", "a\n", "\na", "a b", " a", "a ", "a-", "a_", "_a", "a;", "a\nb", "`", "{",
    "a/", "a:", "/a", ":a", "a`", "a{",
]


class RefusedRows(unittest.TestCase):
    def test_no_tuple_or_an_empty_one(self):
        lists = [["a"], ["b", "a"], [], "a", "ab", {"a": 1}, {"a"}, None, 0, 1, True, iter(("a",)), Ranking.of("a")]
        for value in lists + [value for value in odd_values() if not isinstance(value, tuple)] + [()]:
            assert_index(self, InvalidRow, None, Ranking, value)
            assert_index(self, InvalidRow, None, Ranking, row=value)
        assert_index(self, InvalidRow, None, Ranking.of)

    def test_values_that_are_no_names(self):
        for value in NO_NAMES + odd_values() + [Ranking.of("a"), ("a",), 0, 1]:
            for at in range(4):
                row = ("d", "c", "b")[:at] + (value,) + ("b", "a")[:at]
                assert_index(self, InvalidRow, at, Ranking, row)
                assert_index(self, InvalidRow, at, Ranking.of, *row)

    def test_the_same_name_twice(self):
        for many in range(1, 10):
            for at in range(many):
                row = TEN[:many] + (TEN[at],)
                assert_index(self, InvalidRow, many, Ranking, row)
                assert_index(self, InvalidRow, many, Ranking.of, *row)

    def test_the_eleventh_name(self):
        for behind in (("k",), ("j",), (5,), ("k", "l"), ("k", "k"), ("",) * 50):
            assert_index(self, InvalidRow, 10, Ranking, TEN + behind)
            assert_index(self, InvalidRow, 10, Ranking.of, *(TEN + behind))

    def test_of_several_faults_the_first_one_is_told(self):
        faults = [
            (("a", "a", 5), 1), ((5, "a", "a"), 0), (("a", 5, "a"), 1), (("b", "a", "b", "a"), 2), ((None, None), 0),
            (TEN[:9] + ("A", "k"), 9), (TEN[:5] + TEN, 5), (TEN[:2] + ("",) + TEN, 2), (TEN + TEN, 10),
            (("a", ["a"], "a"), 1), (("abcdefghi", "a", "a"), 0),
        ]
        for row, index in faults:
            assert_index(self, InvalidRow, index, Ranking, row)
            assert_index(self, InvalidRow, index, Ranking.of, *row)


class RefusedTexts(unittest.TestCase):
    def assert_refused(self, text):
        assert_keeps(self, InvalidText, "given", text, Ranking.read, text)
        assert_keeps(self, InvalidText, "given", text, Ranking.read, text=text)

    def test_blanks_and_newlines(self):
        for text in ("", " ", "  ", "a  b", " a", "a ", " a b", "a b ", "\n", "a\n", "\na", "a\nb", "a \nb", "a\n b",
                     "a b\n", "\na b", "a b\n\n", "a b c  d", "a\tb", "a b\r"):
            self.assert_refused(text)

    def test_words_that_are_no_names(self):
        for name in NO_NAMES:
            if name != "a b":
                self.assert_refused(name)
            self.assert_refused("b " + name)
            self.assert_refused(name + " b")

    def test_other_texts(self):
        for text in ("a a", "a b a", "a; b", "a,b", "a, b", "(a)", "a+ b-", "Ranking a b", " ".join(TEN + ("k",)),
                     " ".join(TEN + TEN), "a" * 4000, " " * 4000, "a " * 2000):
            self.assert_refused(text)

    def test_values_that_are_no_strings(self):
        for value in odd_values() + [("a",), ("a", "b"), 0, 1, b"a b", Ranking.of("a")]:
            if not isinstance(value, str):
                self.assert_refused(value)
        self.assert_refused(None)


class Menus(unittest.TestCase):
    def test_best_is_the_one_that_stands_first(self):
        for row in ROWS:
            ranking = Ranking(row)
            for menu in menus_of(tuple(sorted(row))):
                self.assertEqual(ranking.best(menu), min(menu, key=row.index))
                self.assertEqual(ranking.best(menu=menu), min(menu, key=row.index))

    def test_no_tuple_or_an_empty_one(self):
        ranking = Ranking.of("b", "a", "c")
        lists = [["a"], ["a", "b"], [], "a", "ab", Ranking.of("a"), 0]
        for value in lists + [value for value in odd_values() if not isinstance(value, tuple)] + [()]:
            assert_index(self, InvalidMenu, None, ranking.best, value)
            assert_index(self, InvalidMenu, None, ranking.best, menu=value)

    def test_values_that_are_none_of_the_things(self):
        ranking = Ranking.of("b", "a", "c")
        for value in odd_values() + ["d", "ab", "a b", "a ", 0, ("a",), Ranking.of("a")]:
            assert_index(self, InvalidMenu, 0, ranking.best, (value,))
            assert_index(self, InvalidMenu, 0, ranking.best, (value, "b"))
            assert_index(self, InvalidMenu, 1, ranking.best, ("a", value, "b"))
            assert_index(self, InvalidMenu, 2, ranking.best, ("a", "c", value))

    def test_menus_that_do_not_ascend(self):
        ranking = Ranking.of("b", "a", "c")
        faults = [
            (("b", "a"), 1), (("a", "a"), 1), (("a", "c", "b"), 2), (("a", "b", "b"), 2), (("c", "b", "a"), 1),
            (("a", "b", "c", "c"), 3), (("a", "b", "c", "a"), 3), (("b", "a", "d"), 1), (("d", "b", "a"), 0),
            (("b", "d", "a"), 1), (("a", "b", "c", "d"), 3), (("a", "c", 5, "b"), 2),
        ]
        for menu, index in faults:
            assert_index(self, InvalidMenu, index, ranking.best, menu)


class Places(unittest.TestCase):
    def test_below_are_those_that_stand_behind(self):
        for row in ROWS:
            for at, thing in enumerate(row):
                self.assertEqual(Ranking(row).below(thing), tuple(sorted(row[at + 1:])))
                self.assertEqual(Ranking(row).below(thing=thing), tuple(sorted(row[at + 1:])))

    def test_place_is_the_index_in_the_row(self):
        for row in ROWS + [TEN]:
            for at, thing in enumerate(row):
                self.assertEqual(Ranking(row).place(thing), at)
                self.assertEqual(Ranking(row).place(thing=thing), at)

    def test_things_that_are_none(self):
        ranking = Ranking.of("b", "a", "c")
        for value in odd_values() + ["d", "ab", "b a c", 0, 1, ("a",), Ranking.of("a")]:
            for action in (ranking.below, ranking.place):
                assert_keeps(self, UnknownThing, "given", value, action, value)
                assert_keeps(self, UnknownThing, "given", value, action, thing=value)

    def test_index_tells_the_thing(self):
        for row in ROWS + [TEN]:
            self.assertEqual([Ranking(row)[at] for at in range(len(row))], list(row))

    def test_indexes_that_are_none(self):
        ranking = Ranking.of("b", "a", "c")
        for value in odd_values() + [3, 4, -2, -3, "0", "a", (0,), (0, 1), [0], slice(None), Ranking.of("a")]:
            assert_keeps(self, InvalidIndex, "given", value, lambda at: ranking[at], value)
        assert_keeps(self, InvalidIndex, "given", 1, lambda at: Ranking.of("a")[at], 1)


class OtherRankings(unittest.TestCase):
    def test_without_some_things(self):
        for row in ROWS:
            ranking = Ranking(row)
            self.assertEqual(ranking.without().row, row)
            for names in menus_of(row):
                if len(names) < len(row):
                    left = tuple([thing for thing in row if thing not in names])
                    for told in (names, names[::-1], names + names):
                        self.assertIs(ranking.without(*told).__class__, Ranking)
                        self.assertEqual(ranking.without(*told).row, left)
                        self.assertEqual(ranking.without(*told).things, tuple(sorted(left)))
            self.assertEqual(ranking.row, row)

    def test_without_all_things(self):
        for row in ROWS:
            assert_index(self, InvalidRow, None, Ranking(row).without, *row)
            assert_index(self, InvalidRow, None, Ranking(row).without, *(row + row))

    def test_without_what_is_no_thing(self):
        ranking = Ranking.of("b", "a")
        for value in odd_values() + ["c", 0, ("a", "b"), Ranking.of("a")]:
            for names in ((value,), ("a", value), (value, "a", "c"), ("b", "a", value), ("a", value, None)):
                assert_keeps(self, UnknownThing, "given", value, ranking.without, *names)

    def test_names_to_go_are_passed_by_position_alone(self):
        with self.assertRaises(TypeError):
            Ranking.of("a", "b").without(names=("a",))

    def test_turned_about(self):
        for row in ROWS + [TEN]:
            ranking = Ranking(row)
            self.assertIs((-ranking).__class__, Ranking)
            self.assertEqual((-ranking).row, row[::-1])
            self.assertEqual((-ranking).things, ranking.things)
            self.assertTrue(-(-ranking) == ranking)
            self.assertEqual(ranking.row, row)


class Comparing(unittest.TestCase):
    def test_things_are_in_it(self):
        for row in ROWS:
            for thing in THINGS + ("b", "A", "ab"):
                self.assertIs(thing in Ranking(row), thing in row)
                self.assertIs(thing not in Ranking(row), thing not in row)

    def test_other_values_are_not_in_it(self):
        ranking = Ranking.of("b", "a", "c")
        for value in odd_values() + [0, 1, "b a", "b a c", ("a",), ("b", "a", "c"), Ranking.of("a"), ranking]:
            self.assertIs(value in ranking, False)
            self.assertIs(value not in ranking, True)

    def test_equal_if_the_rows_are(self):
        for one in ROWS:
            for other in ROWS:
                self.assertIs(Ranking(one) == Ranking.read(" ".join(other)), one == other)
                self.assertIs(Ranking(one) != Ranking.of(*other), one != other)

    def test_never_equal_to_values_of_other_kinds(self):
        ranking = Ranking.of("a")
        for value in odd_values() + [0, 1, "a", ("a",), "Ranking a", InvalidRow(0)]:
            self.assertIs(ranking == value, False)
            self.assertIs(ranking != value, True)

    def test_odd_values_are_odd(self):
        self.assertTrue(Agreeable() == "a")
        self.assertRaises(RuntimeError, lambda: Unshowable() == "a")

    def test_two_calls_tell_the_same(self):
        ranking = Ranking.of("b", "a", "c")
        for _ in range(2):
            self.assertEqual(ranking.best(("a", "c")), "a")
            self.assertEqual(raised(self, UnknownThing, ranking.place, "d"), {"given": "d"})
            self.assertEqual((ranking.row, str(ranking.without("b"))), (("b", "a", "c"), "a c"))

    def test_each_listed_method_stands_in_the_class(self):
        listed = ["of", "read", "row", "things", "best", "below", "place", "without", "__init__", "__getitem__",
                  "__neg__", "__contains__", "__len__", "__str__", "__repr__", "__eq__"]
        self.assertEqual([name for name in listed if name not in vars(Ranking)], [])
        self.assertEqual(Ranking.__module__, "menuhouses.rankings")


if __name__ == "__main__":
    unittest.main()
