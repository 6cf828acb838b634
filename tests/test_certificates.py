import unittest
from itertools import product
from random import Random

from menuhouses.certificates import (
    certify_alike, certify_answer, certify_common, certify_fewest, certify_looks, certify_order,
)
from menuhouses.checker import accepts
from menuhouses.comparing import crests, fewest_house
from menuhouses.errors import InvalidMenu, NotAHouse, NotLooks, OtherThings, UnknownThing
from menuhouses.houses import House
from menuhouses.looks import Look, Looks
from menuhouses.rankings import Ranking
from by_certificates import shows
from by_looks import all_looks, answer_of, houses_that_fit
from by_rows import (
    OF_FEW, SOME_OF_FIVE, SOME_OF_FOUR, TEN, THREE, all_houses, fewest, house_of, is_part, some_rows, table,
)
from support import assert_index, assert_keeps, menus_of, odd_values, raised

SEEN = Looks(THREE, (Look.read("a+ b+ c-"),))
CLASHING = Looks(THREE, (Look.read("a+ b- c-"), Look.read("a- b+")))
TWO, MORE = House.read("a b c; c b a"), House.read("a b c; a c b; c b a")


class Shown(unittest.TestCase):
    def assert_shown(self, claim, action, *args):
        """The action certifies just this claim, the same each time, and the checker accepts it."""
        pair = action(*args)
        self.assertEqual((pair.__class__, len(pair)), (tuple, 2))
        self.assertEqual(pair[0], claim)
        self.assertIs(accepts(*pair), True, claim)
        self.assertTrue(shows(*pair), claim)
        self.assertEqual(action(*args), pair)
        return pair[1]

    def assert_looks(self, looks, fit, answer):
        """What is certified of these looks and of each thing on each of some menus."""
        claim = (looks.things, tuple(str(look) for look in looks.looks))
        self.assert_shown(("fits" if fit else "unfit",) + claim, certify_looks, looks)
        menus = menus_of(looks.things)
        for menu in menus if len(menus) < 100 else menus[::40]:
            for thing in menu:
                told = (answer(menu, thing),) + claim + (menu, thing) if fit else ("unfit",) + claim
                self.assert_shown(told, certify_answer, looks, menu, thing)


class LooksShown(Shown):
    def assert_few(self, things, each):
        """Looks at up to three things, told by all houses."""
        houses = houses_that_fit(len(things), each)
        looks = Looks(things, each)
        self.assert_looks(looks, bool(houses), lambda menu, thing: answer_of(len(things), houses, menu, thing))

    def test_two_looks_at_few_things(self):
        for many in (1, 2):
            for length in (0, 1, 2):
                for each in product(all_looks(TEN[:many]), repeat=length):
                    self.assert_few(TEN[:many], each)

    def test_looks_at_three_things(self):
        chance = Random("certificates of looks")
        self.assert_few(THREE, ())
        for look in all_looks(THREE):
            self.assert_few(THREE, (look,))
        for _ in range(160):
            self.assert_few(THREE, tuple(chance.choices(all_looks(THREE), k=chance.randint(2, 6))))

    def test_looks_at_more_things(self):
        chance, fit = Random("certificates of more looks"), []
        for many in (4, 5, 7, 10, 10, 10):
            for kind in ("+-?", "+?", "-?"):
                things, rows = TEN[:many], some_rows(many, 3, many)
                each = tuple(self.drawn(chance, things, house_of(rows), kind, 0.96) for _ in range(12))
                looks = Looks(things, each)
                fit.append(looks.fit)
                self.assert_looks(looks, looks.fit, looks.answer)
        self.assertEqual(set(fit), {True, False})

    def drawn(self, chance, things, house, kind, truth):
        """A look that the house has, most likely."""
        while True:
            menu = tuple(sorted(chance.sample(things, chance.randint(2, len(things)))))
            taken = house(menu) if chance.random() < truth else chance.sample(menu, 1)
            marks = "".join(mark if mark in kind and chance.random() < 0.8 else "?"
                            for mark in ["+" if thing in taken else "-" for thing in menu])
            if set(marks) != {"-"}:
                return Look(menu, marks)

    def test_as_many_needs_as_can_be(self):
        for many in (9, 10):
            looks = Looks(TEN, (Look(TEN[:many], "+" * many),) * 12)
            self.assert_looks(looks, True, looks.answer)
            self.assertLessEqual(len(certify_looks(looks)[1]), 130)
            word, people = certify_answer(looks, ("i", "j"), "j")[0][0], certify_answer(looks, ("i", "j"), "j")[1]
            self.assertEqual(word, {9: "perhaps", 10: "surely"}[many])
            self.assertTrue(word == "surely" or all(1 <= len(each) <= 130 for each in people))

    def test_nothing_taken(self):
        looks = Looks(TEN, tuple(Look((thing, "j"), "-?") for thing in TEN[:9]))
        self.assert_looks(looks, True, looks.answer)
        looks = looks.and_seen(Look(("a", "j"), "?-"))
        self.assertIs(certify_looks(looks)[1][0], None)
        self.assert_looks(looks, False, looks.answer)

    def test_one_thing_alone(self):
        for thing in THREE:
            claim = ("surely", THREE, ("a+ b+ c-",), (thing,), thing)
            self.assertIs(self.assert_shown(claim, certify_answer, SEEN, (thing,), thing), None)


class HousesShown(Shown):
    def assert_two(self, one, other):
        """What is certified of two houses, told by their rows."""
        tables, claim = (table(one), table(other)), tuple(str(house_of(rows)) for rows in (one, other))
        self.assert_order(house_of(one), house_of(other), claim, is_part(*tables), is_part(*tables[::-1]))
        apart = any(not set(tables[0][menu]) & set(tables[1][menu]) for menu in tables[0])
        self.assert_shown(("foreign" if apart else "common",) + claim, certify_common, house_of(one), house_of(other))

    def assert_order(self, one, other, claim, within, turned):
        self.assert_shown(("within" if within else "apart",) + claim, certify_order, one, other)
        told = ("apart",) + claim
        if within:
            told = ("alike",) + claim if turned else ("apart",) + claim[::-1]
        self.assert_shown(told, certify_alike, one, other)

    def test_houses_of_few_things(self):
        for one, other in product(OF_FEW, repeat=2):
            if len(one[0]) == len(other[0]):
                self.assert_two(one, other)
        for one in all_houses(THREE)[::2]:
            for other in all_houses(THREE)[::3] + [one]:
                self.assert_two(one, other)

    def test_houses_of_four_things_and_five(self):
        for some in (SOME_OF_FOUR, SOME_OF_FIVE):
            for one, other in zip(some, some[1:] + some[:1]):
                self.assert_two(one, other)
                self.assert_two(one, one[::2])
                self.assert_two(one[1::2] or one, one)

    def test_fewest(self):
        for rows in OF_FEW + all_houses(THREE):
            claim = ("fewest", str(house_of(rows)), fewest(rows))
            self.assert_shown(claim, certify_fewest, house_of(rows))
        for rows in SOME_OF_FOUR + SOME_OF_FIVE:
            claim = ("fewest", str(house_of(rows)), len(fewest_house(house_of(rows))))
            text, _, loose = self.assert_shown(claim, certify_fewest, house_of(rows))
            self.assertTrue(House.read(text) == house_of(rows))
            self.assertLessEqual(set(loose), set(crests(house_of(rows))))

    def test_houses_of_ten_things(self):
        for many in (1, 5, 24):
            one, other = house_of(some_rows(10, many, 1)), house_of(some_rows(10, many, 2))
            for pair in ((one, other), (one, one), (one, house_of(one_row(one))), (house_of(one_row(one)), one)):
                claim = tuple(str(house) for house in pair)
                self.assert_order(*pair, claim, pair[0].within(pair[1]), pair[1].within(pair[0]))
                word = certify_common(*pair)[0][0]
                self.assert_shown((word,) + claim, certify_common, *pair)
                self.assertIn(word, ("common", "foreign") if pair[1] == other else ("common",))
            self.assert_shown(("fewest", str(one), len(fewest_house(one))), certify_fewest, one)
        longest = House(*[Ranking(tuple(name + "1234567" for name in row)) for row in some_rows(10, 24, 3)])
        self.assert_shown(("fewest", str(longest), len(fewest_house(longest))), certify_fewest, longest)
        self.assert_shown(("alike", str(longest), str(longest)), certify_alike, longest, longest)

    def test_the_houses_stay(self):
        texts = str(MORE), str(TWO)
        certify_fewest(MORE)
        certify_common(MORE, TWO)
        certify_alike(MORE, TWO)
        self.assertEqual((str(MORE), str(TWO)), texts)


def one_row(house):
    """The row of one ranking of the house."""
    return [house.rankings[-1].row]


class Refused(unittest.TestCase):
    def test_by_position_and_by_name(self):
        self.assertEqual(certify_looks(looks=SEEN), certify_looks(SEEN))
        self.assertEqual(certify_answer(looks=SEEN, menu=THREE, thing="c"), certify_answer(SEEN, THREE, "c"))
        self.assertEqual(certify_fewest(house=MORE), certify_fewest(MORE))
        for certify in (certify_order, certify_alike, certify_common):
            self.assertEqual(certify(one=MORE, other=TWO), certify(MORE, TWO))

    def test_each_stands_in_its_file(self):
        for certify in (certify_looks, certify_answer, certify_order, certify_alike, certify_fewest, certify_common):
            self.assertEqual(certify.__module__, "menuhouses.certificates")

    def test_no_looks(self):
        for value in odd_values() + [0, (Look.read("a+"),), Look.read("a+"), Looks, MORE]:
            assert_keeps(self, NotLooks, "given", value, certify_looks, value)
            assert_keeps(self, NotLooks, "given", value, certify_looks, looks=value)
            assert_keeps(self, NotLooks, "given", value, certify_answer, value, ("a",), "a")
            assert_keeps(self, NotLooks, "given", value, certify_answer, looks=value, menu=None, thing=None)

    def test_menus_and_things(self):
        faults = [((), None), (["a"], None), ("a", None), (("d",), 0), (("b", "a"), 1), (("a", "a"), 1), (("a", 5), 1)]
        faults = faults + [(value, None) for value in odd_values() if not isinstance(value, tuple)]
        faults = faults + [(("a", value), 1) for value in odd_values()]
        for looks in (SEEN, CLASHING):
            for value, index in faults:
                assert_index(self, InvalidMenu, index, certify_answer, looks, value, "a")
                assert_index(self, InvalidMenu, index, certify_answer, looks=looks, menu=value, thing=None)
            for value in odd_values() + ["b", "d", ("a",), 0]:
                assert_keeps(self, UnknownThing, "given", value, certify_answer, looks, ("a", "c"), value)

    def test_no_houses(self):
        for value in odd_values() + [0, "a b c", Ranking(THREE), SEEN, House]:
            assert_keeps(self, NotAHouse, "given", value, certify_fewest, value)
            assert_keeps(self, NotAHouse, "given", value, certify_fewest, house=value)
            for certify in (certify_order, certify_alike, certify_common):
                assert_keeps(self, NotAHouse, "given", value, certify, value, TWO)
                assert_keeps(self, NotAHouse, "given", value, certify, one=value, other=None)
                assert_keeps(self, NotAHouse, "given", value, certify, TWO, value)

    def test_houses_of_other_things(self):
        for text in ("a b", "a b d", "a b c d", "x"):
            other = House.read(text)
            for certify in (certify_order, certify_alike, certify_common):
                self.assertEqual(raised(self, OtherThings, certify, TWO, other), {"given": other.things})
                self.assertEqual(raised(self, OtherThings, certify, one=other, other=TWO), {"given": THREE})


if __name__ == "__main__":
    unittest.main()
