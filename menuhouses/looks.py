"""Looks: what somebody saw of what a house takes from a menu, and what follows from several of them."""

from menuhouses.checks import check_index, check_menu, check_names_of_menu, check_taken, check_thing, check_things
from menuhouses.checks import first_wrong_of_names
from menuhouses.errors import Clash, InvalidLooks, InvalidMarks, InvalidText
from menuhouses.houses import check_house
from menuhouses.letting import answer_of, are_settled, do_fit, first_clash, row_alone, rows_that_fit
from menuhouses.limits import MOST_LOOKS
from menuhouses.masks import index_of, index_rows, mask_of, mask_of_all, names_of
from menuhouses.rankings import Ranking

MARKS = "+-?"
MARK_OF_ANSWER = {"surely": "+", "never": "-", "perhaps": "?"}


def are_marks(marks, many):
    """Whether these are the marks of a look at a menu of this many things."""
    if not isinstance(marks, str) or len(marks) != many:
        return False
    return all([mark in MARKS for mark in marks]) and marks.count("-") < many


def look_at_just(menu, taken):
    """The look by which just these things are taken from the menu."""
    return Look(menu, "".join(["+" if thing in taken else "-" for thing in menu]))


def check_looks(looks, things):
    """Raises InvalidLooks if this is no tuple of up to twelve Looks at menus of these things."""
    if not isinstance(looks, tuple):
        raise InvalidLooks(None)
    for at, look in enumerate(looks):
        if at >= MOST_LOOKS or not isinstance(look, Look):
            raise InvalidLooks(at)
        if not all([thing in things for thing in look.menu]):
            raise InvalidLooks(at)


def masks_of_look(look, things):
    """The look as masks: of its menu, of the things marked + and of those marked -."""
    return mask_of(look.menu, things), mask_of(look.taken, things), mask_of(look.passed, things)


class Look:
    """A look at a menu, with a mark for each thing on it; it never changes."""

    def __init__(self, menu, marks):
        check_names_of_menu(menu)
        if not are_marks(marks, len(menu)):
            raise InvalidMarks(marks)
        # No property, as NoHouse stores an attribute of this name when `&` of houses raises it.
        self.menu = menu
        self._marks = marks

    @classmethod
    def read(cls, text):
        """The look with this text."""
        if not isinstance(text, str):
            raise InvalidText(text)
        parts = text.split(" ")
        menu = tuple([part[:-1] for part in parts])
        marks = "".join([part[-1:] for part in parts])
        if first_wrong_of_names(menu) is not None or not are_marks(marks, len(menu)):
            raise InvalidText(text)
        return cls(menu, marks)

    @staticmethod
    def just(menu, taken):
        """The look by which just these things are taken from the menu."""
        check_names_of_menu(menu)
        check_taken(taken, menu)
        return look_at_just(menu, taken)

    @property
    def marks(self):
        """The marks of these things, in their order."""
        return self._marks

    @property
    def taken(self):
        """The things marked +, ascending."""
        return tuple([thing for thing, mark in zip(self.menu, self._marks) if mark == "+"])

    @property
    def passed(self):
        """The things marked -, ascending."""
        return tuple([thing for thing, mark in zip(self.menu, self._marks) if mark == "-"])

    def holds(self, house):
        """Whether the house has this look."""
        check_house(house)
        for thing in self.menu:
            check_thing(thing, house.things)
        taken = house(self.menu)
        return all([mark == "?" or (mark == "+") == (thing in taken) for thing, mark in zip(self.menu, self._marks)])

    def __getitem__(self, at):
        check_thing(at, self.menu)
        return self._marks[index_of(at, self.menu)]

    def __iter__(self):
        # Without this, Python would ask for the things 0, 1 and so on.
        raise TypeError("a look is not iterated over, its menu and marks are")

    def __len__(self):
        return len(self.menu)

    def __str__(self):
        return " ".join([f"{thing}{mark}" for thing, mark in zip(self.menu, self._marks)])

    def __repr__(self):
        return f"Look {self}"

    def __eq__(self, other):
        return isinstance(other, Look) and self.menu == other.menu and self._marks == other._marks


class Looks:
    """Up to twelve looks at menus of the same things; they never change."""

    def __init__(self, things, looks=()):
        check_things(things)
        check_looks(looks, things)
        self._things = things
        self._looks = looks
        self._full = mask_of_all(len(things))
        self._masks = [masks_of_look(look, things) for look in looks]
        self._first_clash = first_clash(self._full, self._masks)

    @property
    def things(self):
        """The things in ascending order."""
        return self._things

    @property
    def looks(self):
        """The looks, in their order."""
        return self._looks

    @property
    def fit(self):
        """Whether some house has all the looks."""
        return self._first_clash is None

    def and_seen(self, *more):
        """The looks with these behind them."""
        return Looks(self._things, self._looks + more)

    def without(self, *indexes):
        """The looks without those with these indexes."""
        for index in indexes:
            check_index(index, len(self._looks))
        return Looks(self._things, tuple([look for at, look in enumerate(self._looks) if at not in indexes]))

    def answer(self, menu, thing):
        """Whether the thing is "surely", "never" or "perhaps" taken from the menu."""
        check_menu(menu, self._things)
        check_thing(thing, menu)
        self._check_fit()
        return self._answer(menu, thing)

    def look(self, menu):
        """The look at this menu with all that is known of it."""
        check_menu(menu, self._things)
        self._check_fit()
        return Look(menu, "".join([MARK_OF_ANSWER[self._answer(menu, thing)] for thing in menu]))

    def can_be(self, menu, taken):
        """Whether just these things can be taken from the menu."""
        check_menu(menu, self._things)
        check_taken(taken, menu)
        self._check_fit()
        menu_mask, taken_mask = mask_of(menu, self._things), mask_of(taken, self._things)
        return do_fit(self._full, self._masks + [(menu_mask, taken_mask, menu_mask - taken_mask)])

    def settled(self):
        """Whether all houses that fit are alike."""
        self._check_fit()
        return are_settled(self._full, self._masks)

    def people(self):
        """Rankings of which the house fits, at most as many as there are needs, ascending."""
        self._check_fit()
        rows = [tuple(row) for row in rows_that_fit(self._full, self._masks)]
        return tuple([Ranking(names_of(row, self._things)) for row in sorted(set(rows))])

    def alone(self):
        """A ranking that alone has all the looks, None if there is none."""
        row = row_alone(self._full, self._masks)
        return None if row is None else Ranking(names_of(row, self._things))

    def clash(self):
        """The indexes of as few looks as can be that alone do not fit, None if the looks fit."""
        if self.fit:
            return None
        # At the latest all of them do not fit.
        for row in index_rows(len(self._looks)):
            if not do_fit(self._full, [self._masks[at] for at in row]):
                return row

    def fewest_back(self):
        """The indexes of as few looks as can be without which the others fit."""
        # At the latest no look is left, which every house fits.
        for row in index_rows(len(self._looks)):
            if do_fit(self._full, [masks for at, masks in enumerate(self._masks) if at not in row]):
                return row

    def _check_fit(self):
        if not self.fit:
            raise Clash(self._first_clash)

    def _answer(self, menu, thing):
        at = index_of(thing, self._things)
        return answer_of(self._full, self._masks, mask_of(menu, self._things), at)

    def __eq__(self, other):
        return isinstance(other, Looks) and self._things == other._things and self._looks == other._looks
