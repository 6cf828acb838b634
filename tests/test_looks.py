import unittest
from itertools import product

from menuhouses.errors import (
    Clash, InvalidIndex, InvalidLooks, InvalidMarks, InvalidMenu, InvalidTaken, InvalidText, InvalidThings, NotAHouse,
    UnknownThing,
)
from menuhouses.houses import House
from menuhouses.looks import Look, Looks
from menuhouses.rankings import Ranking
from by_rows import OF_FEW, SOME_OF_FOUR, TEN, THREE, all_houses, house_of, taken
from support import Agreeable, assert_index, assert_keeps, menus_of, odd_values, raised

MENUS = [menu for menu in menus_of(("a", "b1", "longname"))]
EACH = [(menu, "".join(marks)) for menu in MENUS for marks in product("+-?", repeat=len(menu)) if set(marks) != {"-"}]
GREAT = [(TEN, "+-?+-?+-?+"), (TEN, "+" * 10), (TEN, "?" * 10), (TEN, "-" * 9 + "?"), (TEN, "+" + "-" * 9)]

# Values in the place of an ascending tuple of one to ten names, and the index that is told.
NO_NAMES = [
    ((), None), (["a"], None), (["a", "b"], None), ("a", None), ("ab", None), (None, None), (5, None), ({"a": 1}, None),
    (("A",), 0), (("a", ""), 1), (("a", "b "), 1), (("a", 5), 1), (("a", None, "A"), 1), (("b", "a"), 1),
    (("a", "a"), 1), (("a", "c", "b"), 2), (("a", "c", "b", "A"), 2), (("a", "b", ("c",)), 2), (("1a",), 0),
    (("abcdefghi",), 0), (("b", "a", 5), 1), (TEN + ("k",), 10), (TEN + ("j",), 10), (TEN + (5,), 10),
    (TEN[:9] + ("i",), 9), (TEN[:9] + ("J", "k"), 9), (TEN + TEN, 10), (("a1", "a"), 1),
]


def odd_names():
    """The same values with others."""
    odd = [(value, None) for value in odd_values() if not isinstance(value, tuple)]
    return NO_NAMES + odd + [((value,), 0) for value in odd_values()] + [(("a", value), 1) for value in odd_values()]


class MakingLooks(unittest.TestCase):
    def assert_is(self, look, menu, marks):
        self.assertIs(look.__class__, Look)
        self.assertEqual((look.menu, look.marks), (menu, marks))
        text = " ".join(thing + mark for thing, mark in zip(menu, marks))
        self.assertEqual((str(look), repr(look), len(look)), (text, "Look " + text, len(menu)))
        self.assertEqual(look.taken, tuple(thing for thing, mark in zip(menu, marks) if mark == "+"))
        self.assertEqual(look.passed, tuple(thing for thing, mark in zip(menu, marks) if mark == "-"))
        self.assertEqual([look[thing] for thing in menu], list(marks))
        self.assertTrue(look)

    def test_made_of_menu_and_marks(self):
        for menu, marks in EACH + GREAT:
            self.assert_is(Look(menu, marks), menu, marks)
            self.assert_is(Look(menu=menu, marks=marks), menu, marks)

    def test_made_of_its_text(self):
        for menu, marks in EACH + GREAT:
            text = " ".join(thing + mark for thing, mark in zip(menu, marks))
            self.assert_is(Look.read(text), menu, marks)
            self.assert_is(Look.read(text=text), menu, marks)

    def test_made_of_what_is_just_taken(self):
        for menu in MENUS + [TEN]:
            for some in menus_of(menu):
                marks = "".join("+" if thing in some else "-" for thing in menu)
                self.assert_is(Look.just(menu, some), menu, marks)
                self.assert_is(Look.just(menu=menu, taken=some), menu, marks)

    def test_no_names_on_the_menu(self):
        for value, index in odd_names():
            for marks in ("+", "++", None, "-"):
                assert_index(self, InvalidMenu, index, Look, value, marks)
                assert_index(self, InvalidMenu, index, Look, menu=value, marks=marks)
            assert_index(self, InvalidMenu, index, Look.just, value, ("a",))
            assert_index(self, InvalidMenu, index, Look.just, menu=value, taken=None)

    def test_marks_that_are_none(self):
        wrong = odd_values() + ["+", "+++", "--", "+x", "+ ", " +", "x+", "+-?", ("+", "-"), ["+", "-"], "++\n", 0, b"++"]
        for value in wrong:
            assert_keeps(self, InvalidMarks, "given", value, Look, ("a", "b"), value)
            assert_keeps(self, InvalidMarks, "given", value, Look, menu=("a", "b"), marks=value)
        for many in range(1, 11):
            marks = "-" * many
            assert_keeps(self, InvalidMarks, "given", marks, Look, TEN[:many], marks)

    def test_taken_things_that_are_not_on_the_menu(self):
        faults = [((), None), (["a"], None), ("a", None), (None, None), (("c",), 0), (("a", "c"), 1), (("b", "a"), 1),
                  (("a", "a"), 1), (("a", "b", "c"), 2), (("a", "b", "b"), 2), (("c", "a"), 0), (("b", "c", "a"), 1)]
        faults = faults + [(value, None) for value in odd_values() if not isinstance(value, tuple)]
        faults = faults + [((value,), 0) for value in odd_values()] + [(("a", value), 1) for value in odd_values()]
        for value, index in faults:
            assert_index(self, InvalidTaken, index, Look.just, ("a", "b"), value)
            assert_index(self, InvalidTaken, index, Look.just, menu=("a", "b"), taken=value)

    def test_texts_of_none(self):
        for text in ("", " ", "a", "+", "a-", "a- b-", "a+ b", "a b+", "a+  b+", " a+", "a+ ", "a+ a-", "b+ a+", "a + b+",
                     "A+", "a+\n", "a+\nb+", "a++", "a+b+", "a+, b+", "a+;b+", "Look a+", "+a", "1a+", "abcdefghi+",
                     "a1+ a+", "a+ ?", "a* b+", " ".join(thing + "+" for thing in TEN + ("k",)), "a" * 4000, "a+ " * 1000):
            assert_keeps(self, InvalidText, "given", text, Look.read, text)
            assert_keeps(self, InvalidText, "given", text, Look.read, text=text)

    def test_values_that_are_no_strings(self):
        for value in odd_values() + [0, ("a+",), b"a+", Look.read("a+")]:
            if not isinstance(value, str):
                assert_keeps(self, InvalidText, "given", value, Look.read, value)

    def test_the_menu_is_an_attribute_of_each_look(self):
        for look in (Look(("a", "b"), "+-"), Look.read("a+ b-"), Look.just(("a", "b"), ("a",))):
            self.assertEqual(vars(look)["menu"], ("a", "b"))
            self.assertEqual((look.menu, look.menu.__class__), (("a", "b"), tuple))
        self.assertFalse(hasattr(Look, "menu"))

    def test_properties_are_not_assigned(self):
        look = Look.read("a+ b-")
        for name in ("marks", "taken", "passed"):
            with self.assertRaises(AttributeError):
                setattr(look, name, ())
        self.assert_is(look, ("a", "b"), "+-")

    def test_each_listed_method_stands_in_the_class(self):
        listed = ["__init__", "read", "just", "marks", "taken", "passed", "__getitem__", "holds", "__len__",
                  "__str__", "__repr__", "__eq__"]
        self.assertEqual([name for name in listed if name not in vars(Look)], [])
        listed = ["__init__", "things", "looks", "fit", "and_seen", "without", "answer", "look", "can_be", "settled",
                  "people", "alone", "clash", "fewest_back", "__eq__"]
        self.assertEqual([name for name in listed if name not in vars(Looks)], [])
        self.assertEqual((Look.__module__, Looks.__module__), ("menuhouses.looks",) * 2)


class OneLook(unittest.TestCase):
    def test_things_that_are_not_on_the_menu(self):
        look = Look.read("a+ b- d?")
        for value in odd_values() + ["c", 0, ("a",), Ranking.of("a"), look, slice(0, 1)]:
            assert_keeps(self, UnknownThing, "given", value, lambda: look[value])

    def test_holds_if_the_house_has_it(self):
        looks = [(menu, "".join(marks)) for menu in menus_of(TEN[:4]) for marks in product("+-?", repeat=len(menu))
                 if set(marks) != {"-"}]
        for rows in all_houses(THREE)[::2] + SOME_OF_FOUR[::6] + OF_FEW:
            house = house_of(rows)
            for menu, marks in looks:
                if set(menu) <= set(rows[0]):
                    some = taken(rows, menu)
                    told = all(mark == "?" or (mark == "+") == (thing in some) for thing, mark in zip(menu, marks))
                    self.assertIs(Look(menu, marks).holds(house), told)
                    self.assertIs(Look(menu, marks).holds(house=house), told)

    def test_no_house_or_one_without_a_thing(self):
        look = Look.read("a+ b- c+ d?")
        for value in odd_values() + [0, "a b c d", Ranking(TEN), look, Look]:
            assert_keeps(self, NotAHouse, "given", value, look.holds, value)
            assert_keeps(self, NotAHouse, "given", value, look.holds, house=value)
        for text, thing in (("b", "a"), ("a", "b"), ("a b d", "c"), ("e d c b a", None), ("c b a", "d"), ("x y", "a")):
            if thing is None:
                self.assertIs(look.holds(House.read(text)), False)
            else:
                self.assertEqual(raised(self, UnknownThing, look.holds, House.read(text)), {"given": thing})

    def test_equal_if_menu_and_marks_are(self):
        for one in EACH:
            for other in EACH:
                self.assertIs(Look(*one) == Look(*other), one == other)
                self.assertIs(Look(*one) != Look(*other), one != other)
        for value in odd_values() + [0, "a+", ("a",), Ranking.of("a"), House.read("a")]:
            self.assertIs(Look.read("a+") == value, False)
            self.assertIs(Look.read("a+") != value, True)


LOOKS = (Look.read("a+ b+ c-"), Look.read("a? c+"), Look.read("b+ c-"))


class ManyLooks(unittest.TestCase):
    def assert_is(self, looks, things, each):
        self.assertIs(looks.__class__, Looks)
        self.assertEqual((looks.things, looks.looks), (things, each))
        self.assertIs(looks.looks.__class__, tuple)
        self.assertTrue(looks)

    def test_made_of_things_and_looks(self):
        for many in range(4):
            self.assert_is(Looks(THREE, LOOKS[:many]), THREE, LOOKS[:many])
            self.assert_is(Looks(things=TEN, looks=LOOKS[:many]), TEN, LOOKS[:many])
        self.assert_is(Looks(THREE), THREE, ())
        self.assert_is(Looks(things=("a",)), ("a",), ())
        self.assert_is(Looks(THREE, LOOKS * 4), THREE, LOOKS * 4)

    def test_things_that_are_none(self):
        for value, index in odd_names():
            assert_index(self, InvalidThings, index, Looks, value)
            assert_index(self, InvalidThings, index, Looks, value, None)
            assert_index(self, InvalidThings, index, Looks, things=value, looks=LOOKS)

    def test_looks_that_are_none(self):
        for value in odd_values() + [list(LOOKS), LOOKS[0], "a+", [], Looks(THREE, LOOKS), 0]:
            if not isinstance(value, tuple):
                assert_index(self, InvalidLooks, None, Looks, THREE, value)
                assert_index(self, InvalidLooks, None, Looks, things=THREE, looks=value)
        for value in odd_values() + [list(LOOKS), LOOKS, "a+", Looks(THREE, LOOKS), Look, 0]:
            for at in range(4):
                assert_index(self, InvalidLooks, at, Looks, THREE, LOOKS[:at] + (value,) + LOOKS[at:])
                assert_index(self, InvalidLooks, 3 + at, Looks(THREE, LOOKS).and_seen, *LOOKS[:at], value, *LOOKS[at:])
        assert_index(self, InvalidLooks, 0, Looks, THREE, (Agreeable(), LOOKS[0]))

    def test_looks_at_other_things(self):
        for text in ("d+", "a+ d-", "a+ b- c+ d?", "a1+", "a- b+ bb?"):
            for at in range(4):
                assert_index(self, InvalidLooks, at, Looks, THREE, LOOKS[:at] + (Look.read(text), None) + LOOKS)
                assert_index(self, InvalidLooks, at, Looks(THREE).and_seen, *LOOKS[:at], Look.read(text), None)
        assert_index(self, InvalidLooks, 1, Looks, ("a",), (Look.read("a+"), LOOKS[1]))

    def test_the_thirteenth(self):
        for behind in ((LOOKS[0],), LOOKS * 4, (None,), (Look.read("d+"),)):
            assert_index(self, InvalidLooks, 12, Looks, THREE, LOOKS * 4 + behind)
            assert_index(self, InvalidLooks, 12, Looks(THREE, LOOKS * 4).and_seen, *behind)
            assert_index(self, InvalidLooks, 12, Looks(THREE, LOOKS * 3).and_seen, *LOOKS, *behind)

    def test_looks_come_behind_the_others(self):
        for at in range(4):
            for end in range(at, 4):
                looks = Looks(THREE, LOOKS[:at])
                self.assert_is(looks.and_seen(*LOOKS[at:end]), THREE, LOOKS[:end])
                self.assert_is(looks, THREE, LOOKS[:at])
        with self.assertRaises(TypeError):
            Looks(THREE).and_seen(more=LOOKS)

    def test_looks_go(self):
        each = LOOKS + LOOKS[:2]
        looks = Looks(THREE, each)
        for some in [()] + menus_of(tuple(range(5))):
            left = tuple(look for at, look in enumerate(each) if at not in some)
            for indexes in (some, some[::-1], some + some):
                self.assert_is(looks.without(*indexes), THREE, left)
        self.assert_is(looks, THREE, each)
        with self.assertRaises(TypeError):
            looks.without(indexes=(0,))

    def test_indexes_that_are_none(self):
        looks = Looks(THREE, LOOKS)
        for value in odd_values() + [3, 4, 12, -3, "0", (0,), LOOKS[0]]:
            for indexes in ((value,), (0, value), (2, 2, value, 3), (value, None, "a")):
                assert_keeps(self, InvalidIndex, "given", value, looks.without, *indexes)
        assert_keeps(self, InvalidIndex, "given", 0, Looks(THREE).without, 0)

    def test_equal_if_things_and_looks_are(self):
        each = [Looks(things, looks) for things in (THREE, TEN[:4], TEN) for looks in ((), LOOKS[:1], LOOKS, LOOKS[::-1])]
        for at, one in enumerate(each):
            for index, other in enumerate(each):
                self.assertIs(one == Looks(other.things, other.looks), at == index)
                self.assertIs(one != Looks(other.things, other.looks), at != index)
        for value in odd_values() + [0, LOOKS, (THREE, ()), LOOKS[0], House.read("a")]:
            self.assertIs(Looks(THREE) == value, False)
            self.assertIs(Looks(THREE) != value, True)

    def test_properties_are_not_assigned(self):
        looks = Looks(THREE, LOOKS)
        for name in ("things", "looks", "fit"):
            with self.assertRaises(AttributeError):
                setattr(looks, name, ())
        self.assert_is(looks, THREE, LOOKS)


class Asking(unittest.TestCase):
    def setUp(self):
        self.fit = Looks(THREE, (Look.read("a+ b+ c-"),))
        self.clashing = Looks(THREE, (Look.read("a+ b+"), Look.read("a? c+"), Look.read("a- b?"), Look.read("c+")))

    def test_by_position_and_by_name(self):
        for _ in range(2):
            self.assertEqual(self.fit.answer(("a", "c"), "c"), "perhaps")
            self.assertEqual(self.fit.answer(menu=("a", "c"), thing="a"), "surely")
            self.assertEqual(str(self.fit.look(THREE)), "a+ b+ c-")
            self.assertEqual(str(self.fit.look(menu=("b", "c"))), "b+ c?")
            self.assertIs(self.fit.can_be(("a", "b"), ("a", "b")), True)
            self.assertIs(self.fit.can_be(menu=("a", "c"), taken=("c",)), False)
            self.assertEqual(self.fit.looks, (Look.read("a+ b+ c-"),))

    def test_menus_that_are_none(self):
        faults = [((), None), (["a"], None), ("a", None), (None, None), (("d",), 0), (("b", "a"), 1), (("a", "a"), 1),
                  (("a", "b", "c", "d"), 3), (("a", "c", "b"), 2), (("a", 5), 1), (("d", "b", "a"), 0)]
        faults = faults + [(value, None) for value in odd_values() if not isinstance(value, tuple)]
        faults = faults + [(("a", value), 1) for value in odd_values()]
        for looks in (self.fit, self.clashing):
            for value, index in faults:
                assert_index(self, InvalidMenu, index, looks.answer, value, "a")
                assert_index(self, InvalidMenu, index, looks.answer, menu=value, thing=None)
                assert_index(self, InvalidMenu, index, looks.look, value)
                assert_index(self, InvalidMenu, index, looks.look, menu=value)
                assert_index(self, InvalidMenu, index, looks.can_be, value, ("a",))
                assert_index(self, InvalidMenu, index, looks.can_be, menu=value, taken=None)

    def test_things_that_are_not_on_the_menu(self):
        for looks in (self.fit, self.clashing):
            for value in odd_values() + ["b", "d", 0, ("a",), Look.read("a+")]:
                assert_keeps(self, UnknownThing, "given", value, looks.answer, ("a", "c"), value)
                assert_keeps(self, UnknownThing, "given", value, looks.answer, menu=("a", "c"), thing=value)

    def test_taken_things_that_are_not_on_the_menu(self):
        faults = [((), None), (["a"], None), ("a", None), (("b",), 0), (("a", "b"), 1), (("c", "a"), 1), (("a", "a"), 1),
                  (("a", "c", "c"), 2), (("d", "a"), 0)]
        faults = faults + [(value, None) for value in odd_values() if not isinstance(value, tuple)]
        faults = faults + [(("a", value), 1) for value in odd_values()]
        for looks in (self.fit, self.clashing):
            for value, index in faults:
                assert_index(self, InvalidTaken, index, looks.can_be, ("a", "c"), value)
                assert_index(self, InvalidTaken, index, looks.can_be, menu=("a", "c"), taken=value)

    def test_looks_that_do_not_fit(self):
        actions = [lambda: self.clashing.answer(("a",), "a"), lambda: self.clashing.look(THREE), self.clashing.settled,
                   lambda: self.clashing.can_be(THREE, ("a",)), self.clashing.people]
        for action in actions:
            assert_index(self, Clash, 2, action)
        self.assertIs(self.clashing.fit, False)
        self.assertIs(self.clashing.alone(), None)
        self.assertEqual((self.clashing.clash(), self.clashing.fewest_back()), ((0, 2), (0,)))


if __name__ == "__main__":
    unittest.main()
