"""Trials of books, and books through many changes beside a plain record of all that they were."""

import unittest
from random import Random

from menuhouses.books import Book
from menuhouses.errors import Broken, Clash, InvalidIndex, InvalidWord, NothingToUndo, TooMany, UnknownThing
from menuhouses.looks import Look, Looks
from by_looks import all_looks, answer_of, houses_that_fit
from by_rows import SOME_OF_FIVE, TEN, THREE, house_of, some_rows
from support import menus_of, odd_values, raised

ALL, OTHER = Look.read("a+ b+ c-"), Look.read("a? c+")
WORDS = ("surely", "never", "perhaps")


class Own(Exception):
    """An error that the program does not know."""


class OwnBase(BaseException):
    """An error that is no Exception."""


ERRORS = [
    Own, OwnBase, ValueError, KeyError, KeyboardInterrupt, SystemExit, GeneratorExit, StopIteration, AssertionError,
]


def told(book):
    """All that a book tells, but for what it tells of menus."""
    return book.things, book.looks.looks, book.promises, book.changes, len(book)


def history(book):
    """All that the book told after each change that can be taken back: they are taken back in a trial that fails."""
    found = []

    def go_back(same):
        found.append(told(same))
        while same.changes:
            same.undo()
            found.append(told(same))
        raise Own()

    try:
        book.tried(go_back)
    except Own:
        return found


class Trials(unittest.TestCase):
    def setUp(self):
        self.book = Book(THREE)
        self.book.see(ALL)
        self.book.promise("perhaps", ("b", "c"), "c")

    def change(self, book):
        """Two changes."""
        book.see(OTHER)
        book.promise("surely", ("a", "c"), "c")

    def test_all_changes_stay(self):
        with self.book.trial() as book:
            self.assertIs(book, self.book)
            self.change(book)
        self.assertEqual((len(self.book), len(self.book.promises), self.book.changes), (2, 2, 4))
        self.book.undo()
        self.assertEqual((len(self.book), len(self.book.promises), self.book.changes), (2, 1, 3))
        self.book.undo()
        self.assertEqual((len(self.book), len(self.book.promises), self.book.changes), (1, 1, 2))

    def test_an_error_takes_all_back(self):
        before = history(self.book)
        for kind in ERRORS:
            error = kind()
            with self.assertRaises(kind) as caught:
                with self.book.trial() as book:
                    self.change(book)
                    self.assertEqual(self.book.changes, 4)
                    raise error
            self.assertIs(caught.exception, error)
            self.assertEqual(history(self.book), before)

    def test_errors_of_the_program(self):
        before = history(self.book)
        actions = [
            (lambda book: book.see(Look.read("b+ c-")), Broken, {"index": 0}),
            (lambda book: book.see(Look.read("a- b+")), Clash, {"index": 2}),
            (lambda book: book.promise("no", THREE, "a"), InvalidWord, {"given": "no"}),
            (lambda book: book.forget(2), InvalidIndex, {"given": 2}),
            (lambda book: book.see(Look.read("d+")), UnknownThing, {"given": "d"}),
            (lambda book: [book.undo() for _ in range(5)], NothingToUndo, {}),
            (lambda book: [book.see(ALL) for _ in range(20)], TooMany, {"number": 12}),
        ]
        for action, kind, attributes in actions:
            def rows(book):
                self.change(book)
                action(book)

            self.assertEqual(raised(self, kind, self.book.tried, rows), attributes)
            self.assertEqual(history(self.book), before)

    def test_errors_that_are_caught_in_the_rows(self):
        with self.book.trial() as book:
            raised(self, Broken, book.see, Look.read("b+ c-"))
            book.see(OTHER)
        self.assertEqual((len(self.book), self.book.changes), (2, 3))

    def test_undo_in_the_rows(self):
        before = history(self.book)
        with self.book.trial() as book:
            book.undo()
            book.undo()
            raised(self, NothingToUndo, book.undo)
            book.see(OTHER)
        self.assertEqual((self.book.looks.looks, self.book.promises, self.book.changes), ((OTHER,), (), 1))
        self.setUp()
        with self.assertRaises(Own):
            with self.book.trial() as book:
                book.undo()
                book.undo()
                self.assertEqual((len(book), book.changes), (0, 0))
                book.see(OTHER)
                raise Own()
        self.assertEqual(history(self.book), before)

    def test_just_what_was_done_before_is_undone(self):
        with self.book.trial() as book:
            book.undo()
        self.assertEqual((len(self.book), self.book.promises, self.book.changes), (1, (), 1))

    def test_the_rows_begin_when_they_begin(self):
        trial = self.book.trial()
        self.book.see(OTHER)
        before = history(self.book)
        with self.assertRaises(Own):
            with trial as book:
                book.forget(1)
                raise Own()
        self.assertEqual(history(self.book), before)

    def test_left_by_return_break_and_continue(self):
        def leaves():
            with self.book.trial() as book:
                book.see(OTHER)
                return book

        self.assertIs(leaves(), self.book)
        for _ in range(2):
            with self.book.trial() as book:
                book.see(OTHER)
                continue
        for _ in range(2):
            with self.book.trial() as book:
                book.see(OTHER)
                break
        self.assertEqual((len(self.book), self.book.changes), (5, 6))

    def test_a_trial_within_a_trial_that_fails(self):
        with self.book.trial() as book:
            book.see(OTHER)
            within = history(book)
            with self.assertRaises(Own):
                with book.trial() as same:
                    self.assertIs(same, self.book)
                    same.undo()
                    same.undo()
                    same.see(Look.read("b+ c-"))
                    raise Own()
            self.assertEqual(history(book), within)
            book.see(ALL)
        self.assertEqual((self.book.looks.looks, self.book.changes), ((ALL, OTHER, ALL), 4))

    def test_a_trial_within_a_trial_that_succeeds(self):
        before = history(self.book)
        with self.assertRaises(Own):
            with self.book.trial() as book:
                book.see(OTHER)
                with book.trial():
                    book.see(ALL)
                self.assertEqual((len(book), book.changes), (3, 4))
                raise Own()
        self.assertEqual(history(self.book), before)

    def test_both_fail(self):
        before = history(self.book)
        with self.assertRaises(KeyError):
            with self.book.trial() as book:
                book.see(OTHER)
                with book.trial(), book.trial():
                    book.undo()
                    book.undo()
                    raise KeyError("a")
        self.assertEqual(history(self.book), before)

    def test_two_books(self):
        other = Book(THREE)
        with self.assertRaises(Own):
            with self.book.trial() as book:
                book.see(OTHER)
                other.see(OTHER)
                raise Own()
        self.assertEqual((len(self.book), len(other), other.changes), (1, 1, 1))
        with self.assertRaises(Own):
            with self.book.trial() as one, other.trial() as two:
                one.undo()
                two.undo()
                raise Own()
        self.assertEqual((self.book.changes, other.changes), (2, 1))

    def test_each_trial_is_a_new_one(self):
        self.assertIsNot(self.book.trial(), self.book.trial())

    def test_tried(self):
        for value in odd_values():
            self.assertIs(self.book.tried(lambda book: value), value)
            self.assertIs(self.book.tried(act=lambda book: value), value)
        self.assertEqual(self.book.tried(len), 1)
        self.assertIs(self.book.tried(lambda book: book), self.book)
        self.assertEqual(self.book.changes, 2)
        self.assertIs(self.book.tried(self.change), None)
        self.assertEqual((len(self.book), self.book.changes), (2, 4))

    def test_tried_by_what_fails(self):
        before = history(self.book)
        for kind in ERRORS:
            def act(book):
                book.undo()
                book.tried(self.change_more)
                raise kind("told")

            with self.assertRaises(kind):
                self.book.tried(act)
            self.assertEqual(history(self.book), before)

    def change_more(self, book):
        book.see(OTHER)
        book.see(ALL)


class Record:
    """A book of three things by all houses of them, with all that it was."""

    def __init__(self):
        self.states = [((), ())]

    def answer(self, looks, menu, thing):
        return answer_of(3, houses_that_fit(3, looks), menu, thing)

    def see(self, look):
        looks, promises = self.states[-1]
        if len(looks) == 12:
            return TooMany, {"number": 12}
        if not houses_that_fit(3, looks + (look,)):
            return Clash, {"index": len(looks)}
        return self.change(looks + (look,), promises)

    def forget(self, index):
        looks, promises = self.states[-1]
        if index >= len(looks):
            return InvalidIndex, {"given": index}
        return self.change(looks[:index] + looks[index + 1:], promises)

    def promise(self, word, menu, thing):
        looks, promises = self.states[-1]
        return self.change(looks, promises + ((word, menu, thing),))

    def lift(self, index):
        looks, promises = self.states[-1]
        if index >= len(promises):
            return InvalidIndex, {"given": index}
        return self.change(looks, promises[:index] + promises[index + 1:])

    def undo(self):
        if len(self.states) == 1:
            return NothingToUndo, {}
        self.states.pop()

    def change(self, looks, promises):
        for at, (word, menu, thing) in enumerate(promises):
            if self.answer(looks, menu, thing) != word:
                return Broken, {"index": at}
        self.states.append((looks, promises))


class LargeRecord(Record):
    """A book of more things, by what Looks tell."""

    def __init__(self, things):
        Record.__init__(self)
        self.things = things

    def answer(self, looks, menu, thing):
        return Looks(self.things, looks).answer(menu, thing)

    def see(self, look):
        looks, promises = self.states[-1]
        if len(looks) == 12:
            return TooMany, {"number": 12}
        if not Looks(self.things, looks + (look,)).fit:
            return Clash, {"index": len(looks)}
        return self.change(looks + (look,), promises)


class Beside(unittest.TestCase):
    """A book beside its record."""

    def assert_same(self, book, record):
        looks, promises = record.states[-1]
        self.assertEqual(told(book), (book.things, looks, promises, len(record.states) - 1, len(looks)))

    def assert_step(self, book, record, word, *args):
        refused = getattr(record, word)(*args)
        if refused is None:
            self.assertIs(getattr(book, word)(*args), None)
        else:
            self.assertEqual(raised(self, refused[0], getattr(book, word), *args), refused[1])
        self.assert_same(book, record)
        return refused

    def assert_steps(self, book, record, chance, many, step, depth=0):
        for _ in range(many):
            if depth < 3 and chance.random() < 0.1:
                self.assert_trial(book, record, chance, many, step, depth)
            else:
                self.assert_step(book, record, *step(chance))

    def assert_trial(self, book, record, chance, many, step, depth):
        states, kind = list(record.states), chance.choice([None] + ERRORS)
        try:
            with book.trial() as same:
                self.assertIs(same, book)
                self.assert_steps(book, record, chance, many // 4, step, depth + 1)
                if kind is not None:
                    raise kind("told")
            self.assertIs(kind, None)
        except tuple(ERRORS[:-1]) as error:
            self.assertIs(error.__class__, kind)
        except AssertionError as error:
            if str(error) != "told":
                raise
        if kind is not None:
            record.states = states
        self.assert_same(book, record)

    def assert_all_taken_back(self, book, record):
        while len(record.states) > 1:
            self.assert_step(book, record, "undo")
        self.assert_step(book, record, "undo")

    def test_books_of_three_things(self):
        looks, menus = all_looks(THREE), menus_of(THREE)

        def step(chance):
            word = chance.choice(["see"] * 6 + ["promise"] * 6 + ["forget", "lift", "undo", "undo"])
            if word == "see":
                return word, chance.choice(looks)
            if word == "promise":
                menu = chance.choice(menus)
                return word, chance.choice(WORDS), menu, chance.choice(menu)
            return (word,) if word == "undo" else (word, chance.randrange(4))

        for seed in range(60):
            book, record = Book(THREE), Record()
            self.assert_steps(book, record, Random(f"book {seed}"), 40, step)
            self.assert_menus(book, record.states[-1][0])
            self.assert_all_taken_back(book, record)

    def assert_menus(self, book, looks):
        houses = houses_that_fit(3, looks)
        for menu in menus_of(THREE):
            marks = {"surely": "+", "never": "-", "perhaps": "?"}
            told = "".join(marks[answer_of(3, houses, menu, thing)] for thing in menu)
            self.assertEqual(book[menu], Look(menu, told))

    def test_books_of_more_things(self):
        for many, seed in ((5, 0), (8, 1), (8, 2), (9, 3), (10, 4), (10, 5)):
            things, house = TEN[:many], house_of(some_rows(many, 4, seed))

            def step(chance):
                menu = tuple(sorted(chance.sample(things, chance.randint(2, many))))
                word = chance.choice(["see"] * 6 + ["promise"] * 6 + ["forget", "lift", "undo"])
                if word == "see":
                    taken = house(menu) if chance.random() < 0.8 else (chance.choice(menu),)
                    marks = ["?" if chance.random() < 0.3 else "+" if thing in taken else "-" for thing in menu]
                    return word, Look(menu, "".join(marks) if set(marks) != {"-"} else "?" * len(menu))
                if word == "promise":
                    return word, chance.choice(WORDS), menu, chance.choice(menu)
                return (word,) if word == "undo" else (word, chance.randrange(8))

            book, record = Book(things), LargeRecord(things)
            self.assert_steps(book, record, Random(f"large book {seed}"), 50, step)
            self.assertGreater(len(book), 2)
            for menu in menus_of(things)[::40]:
                self.assertEqual(book[menu], Looks(things, record.states[-1][0]).look(menu))
            self.assert_all_taken_back(book, record)

    def test_a_book_keeps_no_looks_that_no_house_has(self):
        for seed, rows in enumerate(SOME_OF_FIVE):
            chance, book = Random(f"kept {seed}"), Book(TEN[:5])
            for _ in range(30):
                menu = tuple(sorted(chance.sample(TEN[:5], chance.randint(1, 5))))
                try:
                    book[menu] = tuple(sorted(chance.sample(menu, chance.randint(1, len(menu)))))
                except (Clash, TooMany):
                    pass
                self.assertTrue(book.looks.fit)
                self.assertTrue(all(look.holds(house_of([each.row for each in book.looks.people()]))
                                    for look in book.looks.looks))


if __name__ == "__main__":
    unittest.main()
