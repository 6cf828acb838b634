import unittest

from menuhouses.books import Book
from menuhouses.errors import (
    Broken, Clash, InvalidIndex, InvalidMenu, InvalidTaken, InvalidThings, InvalidWord, NotALook, NothingToUndo,
    TooMany, UnknownThing, WrongValue,
)
from menuhouses.houses import House
from menuhouses.looks import Look, Looks
from by_rows import TEN, THREE
from support import Agreeable, assert_index, assert_keeps, menus_of, odd_values, raised

ALL = Look.read("a+ b+ c-")


def told(book):
    """All that a book tells."""
    menus = menus_of(book.things)
    chosen = menus if len(menus) < 100 else menus[:10] + menus[::50]
    return book.things, book.looks.looks, book.promises, book.changes, len(book), [str(book[menu]) for menu in chosen]


def no_menus(things):
    """Values in the place of a menu of these things, and the index that is told."""
    faults = [((), None), (["a"], None), ("a", None), (None, None), (("x",), 0), (("b", "a"), 1), (("a", "a"), 1),
              (things + ("x",), len(things)), (("a", 5), 1), (("x", "b", "a"), 0), (0, None), (slice(1), None)]
    faults = faults + [(value, None) for value in odd_values() if not isinstance(value, tuple)]
    return faults + [(("a", value), 1) for value in odd_values()] + [((value,), 0) for value in odd_values()]


class Books(unittest.TestCase):
    def setUp(self):
        """The book of the document's example."""
        self.book = Book(THREE)
        self.book[THREE] = ("a", "b")
        self.book.promise("perhaps", ("b", "c"), "c")

    def assert_refused(self, kind, attributes, action, *args, **named):
        """The action is refused with this error, and the book is as it was."""
        before = told(self.book)
        self.assertEqual(raised(self, kind, action, *args, **named), attributes)
        self.assertEqual(told(self.book), before)

    def assert_refuses_value(self, kind, value, action, *args, **named):
        """The action is refused with an error that keeps this very value."""
        assert_keeps(self, kind, "given", value, action, *args, **named)
        self.assertEqual((len(self.book), len(self.book.promises), self.book.changes), (1, 1, 2))

    def test_a_new_book(self):
        for book in (Book(THREE), Book(things=THREE)):
            self.assertEqual((book.things, book.looks, book.promises), (THREE, Looks(THREE), ()))
            self.assertEqual((book.changes, len(book)), (0, 0))
            self.assertIs(book.looks.__class__, Looks)
            self.assertEqual(str(book[THREE]), "a? b? c?")
            self.assertIs(bool(book), True)
            raised(self, NothingToUndo, book.undo)

    def test_things_that_are_none(self):
        faults = [((), None), (["a"], None), ("a", None), (("A",), 0), (("b", "a"), 1), (("a", "a"), 1),
                  (TEN + ("k",), 10), (TEN + (None,), 10), (("a", "c", "b", "A"), 2)]
        faults = faults + [(value, None) for value in odd_values() if not isinstance(value, tuple)]
        faults = faults + [((value,), 0) for value in odd_values()] + [(("a", value), 1) for value in odd_values()]
        for value, index in faults:
            assert_index(self, InvalidThings, index, Book, value)
            assert_index(self, InvalidThings, index, Book, things=value)

    def test_what_comes_is_kept(self):
        book = self.book
        self.assertEqual(book.looks, Looks(THREE, (ALL,)))
        self.assertEqual(book.promises, (("perhaps", ("b", "c"), "c"),))
        self.assertEqual((book.changes, len(book), str(book[("a", "c")])), (2, 1, "a+ c?"))
        self.assertIs(book.see(Look.read("a? c+")), None)
        self.assertIs(book.see(look=ALL), None)
        self.assertIs(book.promise("surely", ("a",), "a"), None)
        self.assertIs(book.promise(word="never", menu=THREE, thing="c"), None)
        self.assertEqual(book.looks.looks, (ALL, Look.read("a? c+"), ALL))
        self.assertEqual(book.promises[1:], (("surely", ("a",), "a"), ("never", THREE, "c")))
        self.assertIs(book.promises.__class__, tuple)
        self.assertTrue(all(promise.__class__ is tuple for promise in book.promises))
        self.assertEqual((book.changes, len(book), str(book[("a", "c")])), (6, 3, "a+ c+"))
        self.assertIs(book.forget(0), None)
        self.assertIs(book.forget(index=0), None)
        self.assertIs(book.lift(1), None)
        self.assertIs(book.lift(index=0), None)
        self.assertEqual((book.looks.looks, book.promises), ((ALL,), (("never", THREE, "c"),)))
        self.assertEqual(book.changes, 10)

    def test_what_it_tells_of_a_menu_is_what_its_looks_tell(self):
        for menu in menus_of(THREE):
            self.assertEqual(self.book[menu], self.book.looks.look(menu))
            self.assertIs(self.book[menu].__class__, Look)

    def test_just_these_things(self):
        book = Book(TEN)
        for at, menu in enumerate([TEN, ("a", "c", "j"), ("b",), ("i", "j")]):
            book[menu] = menu[:2]
            self.assertEqual(book.looks.looks[at], Look.just(menu, menu[:2]))
        self.assertEqual(book.changes, 4)

    def test_menus_that_are_none(self):
        for value, index in no_menus(THREE):
            assert_index(self, InvalidMenu, index, lambda: self.book[value])
            assert_index(self, InvalidMenu, index, self.book.__setitem__, value, ("a",))
            assert_index(self, InvalidMenu, index, self.book.__setitem__, value, None)
            assert_index(self, InvalidMenu, index, self.book.promise, "surely", value, "a")
            assert_index(self, InvalidMenu, index, self.book.promise, word="never", menu=value, thing=None)
        self.assertEqual((len(self.book), len(self.book.promises), self.book.changes), (1, 1, 2))

    def test_taken_things_that_are_not_on_the_menu(self):
        faults = [((), None), (["a"], None), ("a", None), (("b",), 0), (("a", "b"), 1), (("c", "a"), 1), (("a", "a"), 1),
                  (("a", "c", "c"), 2), (("x", "a"), 0), (None, None)]
        faults = faults + [(value, None) for value in odd_values() if not isinstance(value, tuple)]
        faults = faults + [(("a", value), 1) for value in odd_values()]
        for value, index in faults:
            assert_index(self, InvalidTaken, index, self.book.__setitem__, ("a", "c"), value)
        self.assertEqual((len(self.book), len(self.book.promises), self.book.changes), (1, 1, 2))

    def test_what_is_no_look(self):
        for value in odd_values() + [0, "a+ b+", Looks(THREE), House.read("a b c"), Look, ("a+",), self.book]:
            self.assert_refuses_value(NotALook, value, self.book.see, value)
            self.assert_refuses_value(NotALook, value, self.book.see, look=value)

    def test_looks_at_other_things(self):
        for text, thing in (("d+", "d"), ("a+ b? d-", "d"), ("a+ aa- b+ bb?", "aa"), ("x- y+ z-", "x"), ("a1?", "a1")):
            self.assert_refused(UnknownThing, {"given": thing}, self.book.see, Look.read(text))

    def test_looks_that_do_not_fit(self):
        for text in ("a- b+", "b- c+", "a- c?"):
            self.assert_refused(Clash, {"index": 1}, self.book.see, Look.read(text))
        self.assert_refused(Clash, {"index": 1}, self.book.__setitem__, ("a", "b"), ("b",))
        self.book.see(Look.read("a? c+"))
        self.assert_refused(Clash, {"index": 2}, self.book.see, Look.read("a+ c-"))
        self.assert_refused(Clash, {"index": 2}, self.book.__setitem__, ("a", "c"), ("a",))

    def test_looks_that_break_a_promise(self):
        book = self.book
        self.assert_refused(Broken, {"index": 0}, book.see, Look.read("b+ c-"))
        self.assert_refused(Broken, {"index": 0}, book.see, Look.read("b+ c+"))
        self.assert_refused(Broken, {"index": 0}, book.__setitem__, ("b", "c"), ("b",))
        book.promise("perhaps", ("a", "c"), "c")
        book.promise("perhaps", ("b", "c"), "c")
        self.assert_refused(Broken, {"index": 0}, book.see, Look.read("b+ c-"))
        self.assert_refused(Broken, {"index": 1}, book.see, Look.read("a? c+"))
        book.lift(0)
        self.assert_refused(Broken, {"index": 0}, book.see, Look.read("a? c+"))
        self.assert_refused(Broken, {"index": 1}, book.see, Look.read("b+ c-"))

    def test_a_clash_comes_ahead_of_a_broken_promise(self):
        self.assert_refused(Clash, {"index": 1}, self.book.see, Look.read("b- c+"))
        self.assert_refused(Clash, {"index": 1}, self.book.__setitem__, ("b", "c"), ("c",))

    def test_twelve_looks(self):
        book = self.book
        for _ in range(11):
            book.see(ALL)
        self.assertEqual((len(book), book.changes), (12, 13))
        for text in ("a+ b+ c-", "a- b+", "b+ c-", "a? b? c?"):
            self.assert_refused(TooMany, {"number": 12}, book.see, Look.read(text))
        for taken in (("a",), ("b",), ("a", "b")):
            self.assert_refused(TooMany, {"number": 12}, book.__setitem__, ("a", "b"), taken)
        # What is not valid at all comes ahead.
        self.assert_refused(UnknownThing, {"given": "d"}, book.see, Look.read("a+ d-"))
        self.assert_refused(NotALook, {"given": 5}, book.see, 5)
        self.assert_refused(InvalidMenu, {"index": None}, book.__setitem__, (), ("a",))
        self.assert_refused(InvalidTaken, {"index": 0}, book.__setitem__, ("a", "b"), ("c",))
        book.forget(11)
        book.see(Look.read("a+ b?"))
        self.assertEqual(len(book), 12)

    def test_looks_that_are_kept_by_a_promise(self):
        book = self.book
        book.see(Look.read("a? c+"))
        book.promise("surely", ("a", "c"), "c")
        book.promise("never", THREE, "c")
        book.promise("surely", ("a", "c"), "c")
        self.assert_refused(Broken, {"index": 1}, book.forget, 1)
        self.assert_refused(Broken, {"index": 2}, book.forget, 0)
        book.lift(1)
        self.assert_refused(Broken, {"index": 1}, book.forget, 0)
        self.assert_refused(Broken, {"index": 2}, book.forget, index=1)
        book.lift(2)
        book.forget(1)
        self.assertEqual(book.looks.looks, (ALL,))
        self.assertEqual(book.promises, (("perhaps", ("b", "c"), "c"), ("never", THREE, "c")))

    def test_indexes_that_are_none(self):
        for value in odd_values() + [1, 2, 12, "0", (0,), ALL]:
            self.assert_refuses_value(InvalidIndex, value, self.book.forget, value)
            self.assert_refuses_value(InvalidIndex, value, self.book.forget, index=value)
            self.assert_refuses_value(InvalidIndex, value, self.book.lift, value)
            self.assert_refuses_value(InvalidIndex, value, self.book.lift, index=value)
        raised(self, InvalidIndex, Book(THREE).forget, 0)
        raised(self, InvalidIndex, Book(THREE).lift, 0)

    def test_promises_that_are_not_so(self):
        for menu in menus_of(THREE):
            for thing in menu:
                answer = self.book.looks.answer(menu, thing)
                for word in ("surely", "never", "perhaps"):
                    if word != answer:
                        self.assert_refused(Broken, {"index": 1}, self.book.promise, word, menu, thing)
                        self.assert_refused(Broken, {"index": 1}, self.book.promise, word=word, menu=menu, thing=thing)
        self.book.promise("surely", ("a", "b"), "b")
        self.assert_refused(Broken, {"index": 2}, self.book.promise, "surely", ("b", "c"), "c")

    def test_what_is_no_promise(self):
        for value in odd_values() + [0, "Surely", "surely ", "sure", "+", ("surely",), b"never", "clash", "fits"]:
            self.assert_refuses_value(InvalidWord, value, self.book.promise, value, ("a", "c"), "a")
            self.assert_refuses_value(InvalidWord, value, self.book.promise, word=value, menu=None, thing=None)
        for value in odd_values() + [0, "b", "d", ("a",), ALL]:
            for word in ("surely", "never", "perhaps"):
                self.assert_refuses_value(UnknownThing, value, self.book.promise, word, ("a", "c"), value)

    def test_changes_are_taken_back_one_by_one(self):
        book = Book(THREE)
        actions = [
            lambda: book.see(ALL), lambda: book.promise("surely", ("a", "c"), "a"),
            lambda: book.promise("perhaps", ("a", "c"), "c"), lambda: book.__setitem__(("b", "c"), ("b", "c")),
            lambda: book.lift(1), lambda: book.see(Look.read("a? c+")), lambda: book.forget(1), lambda: book.lift(0),
            lambda: book.forget(0), lambda: book.forget(0),
        ]
        before = []
        for action in actions:
            before.append(told(book))
            action()
            self.assertEqual(book.changes, len(before))
        self.assertEqual((len(book), book.promises), (0, ()))
        for each in before[::-1]:
            self.assertIs(book.undo(), None)
            self.assertEqual(told(book), each)
        for _ in range(2):
            self.assertEqual(raised(self, NothingToUndo, book.undo), {})
            self.assertEqual(told(book), before[0])

    def test_changes_behind_one_that_was_taken_back(self):
        book = self.book
        book.undo()
        book.see(Look.read("b+ c-"))
        self.assertEqual((book.looks.looks, book.promises, book.changes), ((ALL, Look.read("b+ c-")), (), 2))
        book.undo()
        book.undo()
        self.assertEqual((book.looks.looks, book.promises, book.changes), ((), (), 0))
        raised(self, NothingToUndo, book.undo)

    def test_refused_changes_are_no_changes(self):
        self.assert_refused(Broken, {"index": 0}, self.book.see, Look.read("b+ c-"))
        self.assert_refused(Clash, {"index": 1}, self.book.see, Look.read("a- b+"))
        self.book.undo()
        self.assertEqual((len(self.book), self.book.promises, self.book.changes), (1, (), 1))

    def test_looks_that_a_book_told_stay(self):
        looks = self.book.looks
        self.book.see(ALL)
        self.book.undo()
        self.book.undo()
        self.book.undo()
        self.assertEqual((looks, len(self.book)), (Looks(THREE, (ALL,)), 0))

    def test_equal_to_itself_alone(self):
        book, other = Book(THREE), Book(THREE)
        self.assertIs(book == book, True)
        self.assertIs(book != book, False)
        for value in odd_values() + [other, Looks(THREE), (), 0, Agreeable()]:
            self.assertIs(book == value, False)
            self.assertIs(book != value, True)

    def test_an_object_is_true_as_a_condition(self):
        self.assertIs(bool(Book(THREE)), True)
        self.assertIs(bool(self.book), True)
        self.assertIs(bool(self.book.trial()), True)

    def test_properties_are_not_assigned(self):
        for name in ("things", "looks", "promises", "changes"):
            with self.assertRaises(AttributeError):
                setattr(self.book, name, ())
        self.assertEqual(self.book.changes, 2)

    def test_each_listed_method_stands_in_the_class(self):
        listed = ["__init__", "things", "looks", "promises", "changes", "__getitem__", "__setitem__", "see", "forget",
                  "promise", "lift", "undo", "trial", "tried", "__len__", "__eq__"]
        self.assertEqual([name for name in listed if name not in vars(Book)], [])
        self.assertEqual(Book.__module__, "menuhouses.books")
        self.assertTrue(issubclass(InvalidWord, WrongValue))


if __name__ == "__main__":
    unittest.main()
