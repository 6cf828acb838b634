"""Books: looks as they come, with promises that are kept, and changes that can be taken back."""

from menuhouses.checks import check_index, check_menu, check_taken, check_thing, is_one_of
from menuhouses.errors import Broken, Clash, InvalidWord, NotALook, NothingToUndo, TooMany
from menuhouses.limits import MOST_LOOKS
from menuhouses.looks import Look, Looks, look_at_just

WORDS = ("surely", "never", "perhaps")


def is_so(looks, promise):
    """Whether the promise is so for the looks, which fit."""
    word, menu, thing = promise
    return looks.answer(menu, thing) == word


class Trial:
    """For one `with` statement: if its rows end with an error, the book is as it was when they began."""

    def __init__(self, book):
        self._book = book
        self._before = None

    def __enter__(self):
        self._before = self._book._states
        return self._book

    def __exit__(self, kind, value, trace):
        book = self._book
        if kind is not None:
            book._states = self._before


class Book:
    """Looks that fit, and promises that are so for them."""

    def __init__(self, things):
        # All states that the book was in and can be in again, as pairs of looks and promises; the last one is now.
        # States are never changed: so whoever keeps the tuple can put the book back, and all that can be undone.
        self._states = ((Looks(things), ()),)

    @property
    def things(self):
        """The things in ascending order."""
        return self.looks.things

    @property
    def looks(self):
        """The looks of the book."""
        return self._states[-1][0]

    @property
    def promises(self):
        """The promises as triples (word, menu, thing), in the order in which they were made."""
        return self._states[-1][1]

    @property
    def changes(self):
        """The number of changes that can be taken back."""
        return len(self._states) - 1

    def see(self, look):
        """The look comes behind the others."""
        if not isinstance(look, Look):
            raise NotALook(look)
        for thing in look.menu:
            check_thing(thing, self.things)
        self._add(look)

    def forget(self, index):
        """The look with this index goes."""
        check_index(index, len(self.looks.looks))
        self._look_on(self.looks.without(index))

    def promise(self, word, menu, thing):
        """The promise comes behind the others."""
        if not is_one_of(word, WORDS):
            raise InvalidWord(word)
        check_menu(menu, self.things)
        check_thing(thing, menu)
        made = (word, menu, thing)
        if not is_so(self.looks, made):
            raise Broken(len(self.promises))
        self._change(self.looks, self.promises + (made,))

    def lift(self, index):
        """The promise with this index goes."""
        check_index(index, len(self.promises))
        self._change(self.looks, self.promises[:index] + self.promises[index + 1:])

    def undo(self):
        """Takes the last change back that is not taken back yet."""
        if self.changes == 0:
            raise NothingToUndo()
        self._states = self._states[:-1]

    def trial(self):
        """A trial for a `with` statement: an error that ends its rows takes back what they changed."""
        return Trial(self)

    def tried(self, act):
        """What the function returns, called with the book in the rows of a trial."""
        with Trial(self) as book:
            return act(book)

    def _add(self, look):
        looks = self.looks
        if len(looks.looks) >= MOST_LOOKS:
            raise TooMany(MOST_LOOKS)
        more = looks.and_seen(look)
        if not more.fit:
            raise Clash(len(looks.looks))
        self._look_on(more)

    def _look_on(self, looks):
        for at, promise in enumerate(self.promises):
            if not is_so(looks, promise):
                raise Broken(at)
        self._change(looks, self.promises)

    def _change(self, looks, promises):
        self._states = self._states + ((looks, promises),)

    def __getitem__(self, at):
        return self.looks.look(at)

    def __setitem__(self, at, worth):
        check_menu(at, self.things)
        check_taken(worth, at)
        self._add(look_at_just(at, worth))

    def __iter__(self):
        # Without this, Python would ask for the menus 0, 1 and so on.
        raise TypeError("a book is not iterated over, its looks and promises are")

    def __len__(self):
        return len(self.looks.looks)

    def __bool__(self):
        # A book without looks is an object like any other.
        return True

    def __eq__(self, other):
        return self is other
