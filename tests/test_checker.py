"""The checker beside what the document says of claims and certificates, with certificates that are none, too."""

import ast
import os
import unittest
from itertools import combinations, product

from menuhouses import checker
from menuhouses.checker import accepts
from by_certificates import shows
from by_rows import TEN, THREE
from support import Agreeable, Unshowable, bent, menus_of, odd_values, rows_of

SEEN = ("a+ b+ c-",)
CLASHING = ("a+ b- c-", "a- b+", "a? b? c?")
TWO, MORE = "a b c; c b a", "a b c; a c b; c b a"
BOTH = (((0, 0, 0), (0, 1, 0), (1, 1, 0)), ((0, 0, 0), (2, 2, 0)))
CRESTS = (("a", ("b", "c")), ("c", ("a", "b")))

# Claims with certificates that show them, some by the document's own examples.
SHOWN = [
    (("fits", THREE, ()), ("c b a",)),
    (("fits", THREE, SEEN), ("b a c", "a c b", "b a c")),
    (("fits", ("a",), ("a+", "a?")), ("a",)),
    (("fits", ("a1", "b2"), ("a1- b2?",)), ("b2 a1",)),
    (("unfit", THREE, CLASHING), ((0, "a"), THREE)),
    (("unfit", ("a", "b"), ("a- b?", "a? b-")), (None, ("a", "b"))),
    (("unfit", THREE, ("a- b?", "a? b-", "c?")), (None, ("a", "b"))),
    (("never", THREE, SEEN, THREE, "c"), THREE),
    (("never", THREE, ("a- b+", "b- c+"), ("a", "c"), "a"), THREE),
    (("never", ("a", "b"), ("a- b+",), ("a", "b"), "a"), ("a", "b")),
    (("surely", THREE, SEEN, ("a", "c"), "a"), ((0, "a"), THREE)),
    (("surely", THREE, ("a+ b- c-", "a+ c?"), ("a", "b"), "a"), ((0, "a"), THREE)),
    (("surely", ("a", "b"), ("a- b?",), ("a", "b"), "b"), (None, ("a", "b"))),
    (("surely", THREE, SEEN, ("b",), "b"), None),
    (("perhaps", THREE, SEEN, ("a", "c"), "c"), (("b c a", "a c b"), ("b a c", "a b c"))),
    (("perhaps", ("a", "b"), (), ("a", "b"), "a"), (("a b", "b a"), ("b a",))),
    (("within", TWO, MORE), ((0, 0, 0), (2, 2, 0))),
    (("within", "b a", "a b; b a"), ((1, 0),)),
    (("alike", MORE, TWO), BOTH),
    (("alike", "a", "a"), (((0,),), ((0,),))),
    (("apart", TWO, "a b c; c a b"), (("a", "b"), "b")),
    (("apart", "a b; b a", "a b"), (("a", "b"), "b")),
    (("fewest", MORE, 2), (TWO, BOTH, CRESTS)),
    (("fewest", "b a", 1), ("b a", (((0, 0),), ((0, 0),)), (("b", ("a",)),))),
    (("fewest", "a", 1), ("a", (((0,),), ((0,),)), (("a", ()),))),
    (("common", TWO, "a b c; c a b"), ("c a b", (1, 0, 0), (1, 1, 0))),
    (("common", "a b", "a b; b a"), ("a b", (0, 0), (0, 1))),
    (("foreign", "a b c", "b a c; b c a"), ("a", "b", "c")),
    (("foreign", "a b", "b a"), ("a", "b")),
]


class Certificates(unittest.TestCase):
    def assert_told(self, claim, certificate):
        """The checker tells what the document says."""
        told = accepts(claim, certificate)
        self.assertIs(told, shows(claim, certificate))
        return told

    def test_each_word_is_there(self):
        words = "fits unfit never surely perhaps within alike apart fewest common foreign".split()
        self.assertEqual(list(dict.fromkeys(claim[0] for claim, _ in SHOWN)), words)

    def test_what_is_shown(self):
        for claim, certificate in SHOWN:
            for _ in range(2):
                self.assertIs(accepts(claim, certificate), True, claim)
                self.assertIs(accepts(claim=claim, certificate=certificate), True)
            self.assertIs(shows(claim, certificate), True, claim)

    def test_bent_certificates(self):
        for claim, certificate in SHOWN:
            told = [self.assert_told(claim, each) for each in bent(certificate)]
            self.assertGreater(told.count(False), 15)

    def test_bent_claims(self):
        for claim, certificate in SHOWN:
            told = [self.assert_told(each, certificate) for each in bent(claim)]
            self.assertGreater(told.count(False), 15)

    def test_one_certificate_for_another_claim(self):
        for claim, _ in SHOWN:
            for other, certificate in SHOWN:
                self.assert_told(claim, certificate)
                self.assert_told((other[0],) + claim[1:], certificate)

    def test_values_that_are_no_claims(self):
        certificates = [certificate for _, certificate in SHOWN[::3]] + [None, (), Agreeable(), Unshowable()]
        for value in odd_values() + ["Fits", "fit", "surely ", "not", ("fits",)]:
            for certificate in certificates:
                self.assertIs(accepts(value, certificate), False)
                self.assertIs(accepts((value, THREE, ()), certificate), False)
                self.assertIs(accepts((value, TWO, MORE), certificate), False)
        for claim in ("fits", ("fits",), ("fits", THREE), ("fits", THREE, (), ()), ("never", THREE, SEEN)):
            for certificate in certificates:
                self.assertIs(accepts(claim, certificate), False)

    def test_values_of_any_kind_anywhere(self):
        for value in odd_values():
            for claim, certificate in SHOWN:
                self.assert_told(claim, value)
                for at in range(len(claim)):
                    self.assert_told(claim[:at] + (value,) + claim[at + 1:], certificate)
                for at in range(len(certificate or ())):
                    self.assert_told(claim, certificate[:at] + (value,) + certificate[at + 1:])

    def test_lists_are_no_tuples_and_stay(self):
        for claim, certificate in SHOWN:
            kept = list(claim), repr(certificate)
            self.assertIs(accepts(list(claim), certificate), False)
            self.assertEqual((list(claim), repr(certificate)), kept)
            given = [list(claim), [certificate]]
            accepts(*given)
            self.assertEqual(given, [list(claim), [certificate]])

    def test_it_imports_errors_and_limits_alone(self):
        with open(os.path.abspath(checker.__file__), encoding="utf-8") as file:
            rows = ast.parse(file.read())
        imported = {row.module for row in ast.walk(rows) if isinstance(row, ast.ImportFrom)}
        self.assertLessEqual(imported, {"menuhouses.errors", "menuhouses.limits"})
        self.assertEqual([row for row in ast.walk(rows) if isinstance(row, ast.Import)], [])
        self.assertEqual(accepts.__module__, "menuhouses.checker")


class Limits(unittest.TestCase):
    def test_people(self):
        claim = ("fits", ("a", "b"), ("a+ b+",))
        for many, told in ((1, False), (2, True), (24, True), (25, True), (129, True), (130, True), (131, False)):
            self.assertIs(accepts(claim, ("a b",) * (many - 1) + ("b a",)), told)
        self.assertIs(accepts(("fits", ("a", "b"), ()), ()), False)

    def test_looks(self):
        for many, told in ((0, True), (1, True), (12, True), (13, False), (24, False)):
            self.assertIs(accepts(("fits", ("a", "b"), ("a+ b?",) * many), ("a b",)), told)

    def test_things(self):
        eleven = TEN + ("k",)
        for things, told in ((TEN[:1], True), (TEN, True), (eleven, False), ((), False)):
            self.assertIs(accepts(("fits", things, ()), (" ".join(things),)), told)
            text = " ".join(things)
            covers = (tuple([0] * len(things)),)
            self.assertIs(accepts(("within", text, text), covers), told)

    def test_claims_about_eleven_things(self):
        looks, pair = ("a- b+", "a+ b-"), ((0, "b"), ("a", "b"))
        for things, told in ((TEN, True), (TEN + ("k",), False)):
            people = (" ".join(things), " ".join(things[1:] + ("a",)))
            for claim, certificate in (
                (("unfit", things, looks), ((1, "a"), ("a", "b"))),
                (("never", things, looks, ("a", "b"), "a"), ("a", "b")),
                (("surely", things, looks[:1], ("a", "b"), "b"), pair), (("surely", things, looks, ("a",), "a"), None),
                (("perhaps", things, (), ("a", "b"), "a"), (people[:1], people[1:])), (("fits", things, ()), people),
            ):
                self.assertIs(accepts(claim, certificate), told, claim)

    def test_texts_of_no_rankings_that_are_equal(self):
        # Of ten things one more, one twice, and names that are none.
        for text in ("a a", "a b a", "a B", "B a", "a  b", "a b ", " ".join(TEN + ("k",)), " ".join(TEN + ("a",)), ""):
            many = len(text.split(" "))
            for claim, certificate in (
                (("within", text, text), ((0,) * many,)), (("alike", text, text), (((0,) * many,), ((0,) * many,))),
                (("common", text, text), (text, (0,) * many, (0,) * many)),
                (("fits", tuple(sorted(set(text.split(" ")))), ()), (text,)),
            ):
                self.assertIs(accepts(claim, certificate), False)

    def test_rankings(self):
        texts = [" ".join(row) for row in rows_of(TEN[:5])]
        for many, told in ((24, True), (25, False)):
            house = "; ".join(texts[:many])
            covers = tuple((at,) * 5 for at in range(many))
            self.assertIs(accepts(("within", house, house), covers), told)

    def test_names(self):
        for name, told in (("a", True), ("z9", True), ("abcdefgh", True), ("abcdefghi", False), ("A", False),
                           ("aB", False), ("1a", False), ("a_", False), ("", False), ("a b", False), ("a\n", False)):
            self.assertIs(accepts(("fits", (name,), ()), (name,)), told, name)
            self.assertIs(accepts(("within", name, name), ((0,),)), told, name)
            self.assertIs(accepts(("fits", (name,), (name + "+",)), (name,)), told, name)

    def test_a_look_marks_not_all_as_passed(self):
        for text, told in (("a- b-", False), ("a-", False), ("a- b?", True), ("b?", True)):
            self.assertIs(accepts(("fits", ("a", "b"), (text,)), ("b a",)), told)

    def test_need_of_looks_with_nothing_taken(self):
        # None is a need only if no thing is marked +, whatever the bar.
        self.assertIs(accepts(("unfit", ("a", "b"), ("a- b?", "a? b-")), (None, ("a", "b"))), True)
        self.assertIs(accepts(("unfit", ("a", "b"), ("a- b?", "a? b-", "a+")), (None, ("a", "b"))), False)
        self.assertIs(accepts(("unfit", ("a", "b"), ("a- b?", "a? b-", "a+")), ((2, "a"), ("a", "b"))), True)

    def test_every_bar_is_one_and_not_the_greatest_alone(self):
        claim = ("never", THREE, ("a- b+", "b? c-"), ("a", "b"), "a")
        self.assertIs(accepts(claim, ("a", "b")), True)
        for bar in menus_of(THREE):
            self.assertIs(accepts(claim, bar), shows(claim, bar))

    def test_crests_that_are_parts_of_others(self):
        # ("a", ("b",)) is below a in the second ranking, but it is no crest.
        house = "a b c; c a b"
        covers = tuple((at,) * 3 for at in range(2))
        for crests in combinations([("a", ("b",)), ("a", ("b", "c")), ("b", ()), ("b", ("c",)), ("c", ("a", "b"))], 2):
            certificate = (house, (covers, covers), crests)
            self.assertIs(accepts(("fewest", house, 2), certificate), shows(("fewest", house, 2), certificate))
        certificate = (house, (covers, covers), (("a", ("b", "c")), ("c", ("a", "b"))))
        self.assertIs(accepts(("fewest", house, 2), certificate), True)

    def test_more_rankings_than_the_number_and_fewer(self):
        both = tuple(tuple((at,) * 3 for at in range(3)) for _ in range(2))
        for number in range(5):
            for crests in combinations(CRESTS + (("b", ("a",)), ("b", ("c",))), number):
                claim, certificate = ("fewest", MORE, number), (MORE, both, tuple(sorted(crests)))
                self.assertIs(accepts(claim, certificate), False)
                self.assertIs(shows(claim, certificate), False)

    def test_the_number_is_an_integer(self):
        certificate = ("b a", (((0, 0),), ((0, 0),)), (("b", ("a",)),))
        self.assertIs(accepts(("fewest", "b a", 1), certificate), True)
        for number in (True, False, 0, 2, -1, "1", (1,), None):
            self.assertIs(accepts(("fewest", "b a", number), certificate), False)
        for at in product((0, True, False, 1, -1), repeat=2):
            self.assertIs(accepts(("within", "b a", "a b; b a"), (at,)), [type(each) for each in at] == [int] * 2
                          and at in ((1, 0), (1, 1)))


if __name__ == "__main__":
    unittest.main()
