"""Rankings: rows of things, the best one first."""

from menuhouses.checks import check_menu, check_row, check_thing, first_wrong_in_row, is_index, is_one_of
from menuhouses.errors import InvalidIndex, InvalidText
from menuhouses.masks import index_of


class Ranking:
    """A ranking of one to ten things; it never changes."""

    def __init__(self, row):
        check_row(row)
        self._row = row
        self._things = tuple(sorted(row))

    @classmethod
    def of(cls, *names):
        """The ranking with these names as its row."""
        return cls(names)

    @classmethod
    def read(cls, text):
        """The ranking with this text."""
        if not isinstance(text, str):
            raise InvalidText(text)
        # A blank too many leaves an empty string here, which is no name.
        row = tuple(text.split(" "))
        if first_wrong_in_row(row) is not None:
            raise InvalidText(text)
        return cls(row)

    @property
    def row(self):
        """The things, the best one first."""
        return self._row

    @property
    def things(self):
        """The things in ascending order."""
        return self._things

    def best(self, menu):
        """The thing on the menu that stands first in this ranking."""
        check_menu(menu, self._things)
        return [thing for thing in self._row if thing in menu][0]

    def below(self, thing):
        """The things that stand behind this one, in ascending order."""
        return tuple(sorted(self._row[self.place(thing) + 1:]))

    def place(self, thing):
        """The index of the thing in the row."""
        check_thing(thing, self._things)
        return index_of(thing, self._row)

    def without(self, *names):
        """The ranking of the other things, in the same order."""
        for name in names:
            check_thing(name, self._things)
        # If nothing is left, this raises the InvalidRow(None) that is asked for.
        return Ranking(tuple([thing for thing in self._row if thing not in names]))

    def __getitem__(self, at):
        if not is_index(at, len(self._row)):
            raise InvalidIndex(at)
        return self._row[at]

    def __iter__(self):
        # Without this, Python would go over the indexes until one is refused.
        raise TypeError("a ranking is not iterated over, its row is")

    def __contains__(self, x):
        return is_one_of(x, self._row)

    def __neg__(self):
        return Ranking(self._row[::-1])

    def __len__(self):
        return len(self._row)

    def __str__(self):
        return " ".join(self._row)

    def __repr__(self):
        return f"Ranking {self}"

    def __eq__(self, other):
        return isinstance(other, Ranking) and self._row == other._row
