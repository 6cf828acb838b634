"""Houses: people of whom each one takes the best thing on a menu by a ranking."""

from menuhouses.checks import check_menu, first_wrong_in_row
from menuhouses.errors import InvalidRankings, InvalidText, NoHouse, NotAHouse, OtherThings, TooMany
from menuhouses.joining import dead_end, fewest_rows, indexes_taken, joining_steps
from menuhouses.limits import MOST_PEOPLE
from menuhouses.masks import below_masks, greatest, indexes_of, is_covered, mask_of, names_of
from menuhouses.rankings import Ranking


def check_house(house):
    """Raises NotAHouse if this is no House."""
    if not isinstance(house, House):
        raise NotAHouse(house)


def check_other_house(other, things):
    """Raises NotAHouse or OtherThings if this is no House of these things."""
    check_house(other)
    if other.things != things:
        raise OtherThings(other.things)


def check_rankings(rankings):
    """Raises InvalidRankings if these are not one or more Rankings of the same things."""
    if not rankings:
        raise InvalidRankings(None)
    for at, ranking in enumerate(rankings):
        if not isinstance(ranking, Ranking) or ranking.things != rankings[0].things:
            raise InvalidRankings(at)


def are_rows_of_a_house(rows):
    """Whether these tuples of strings are the rows of the rankings of a house, in ascending order."""
    if len(rows) > MOST_PEOPLE:
        return False
    for row in rows:
        if first_wrong_in_row(row) is not None or sorted(row) != sorted(rows[0]):
            return False
    return all([row < later for row, later in zip(rows, rows[1:])])


def house_of_rows(rows, things):
    """The house of the rankings with these rows of indexes of the things."""
    rankings = [Ranking(names_of(row, things)) for row in rows]
    return House(*rankings)


class House:
    """A house of one to 24 different rankings of the same things; it never changes."""

    def __init__(self, *rankings):
        check_rankings(rankings)
        by_row = {ranking.row: ranking for ranking in rankings}
        rows = sorted(list(by_row))
        if len(rows) > MOST_PEOPLE:
            raise TooMany(len(rows))
        things = rankings[0].things
        below = [below_masks(row, things) for row in rows]
        self._rankings = tuple([by_row[row] for row in rows])
        self._things = things
        # Houses with the same things are alike exactly if these are the same.
        self._crest_masks = tuple([greatest([masks[at] for masks in below]) for at in range(len(things))])

    @classmethod
    def read(cls, text):
        """The house with this text."""
        if not isinstance(text, str):
            raise InvalidText(text)
        rows = [tuple(part.split(" ")) for part in text.split("; ")]
        if not are_rows_of_a_house(rows):
            raise InvalidText(text)
        rankings = [Ranking(row) for row in rows]
        return cls(*rankings)

    @property
    def rankings(self):
        """The different rankings, in ascending order of their rows."""
        return self._rankings

    @property
    def things(self):
        """The things in ascending order."""
        return self._things

    @property
    def crest_masks(self):
        """For each of the things, ascending, the masks of the sets of its crests."""
        return self._crest_masks

    def __call__(self, menu):
        """The things that the house takes from the menu, ascending."""
        check_menu(menu, self._things)
        taken = indexes_taken(self._crest_masks, mask_of(menu, self._things))
        return names_of(taken, self._things)

    def within(self, other):
        """Whether the other house takes from every menu all that this one takes."""
        check_other_house(other, self._things)
        pairs = [(mask, masks) for own, masks in zip(self._crest_masks, other.crest_masks) for mask in own]
        return all([is_covered(mask, masks) for mask, masks in pairs])

    def without(self, *names):
        """The house of its rankings without these things."""
        rankings = [ranking.without(*names) for ranking in self._rankings]
        return House(*rankings)

    def table(self):
        """A line for each thing: how many rankings have it as the first one, and how many crests it has."""
        firsts = [ranking.row[0] for ranking in self._rankings]
        lines = [
            f"{thing:<8}{firsts.count(thing):>5}{len(masks):>5}"
            for thing, masks in zip(self._things, self._crest_masks)
        ]
        return "\n".join(lines)

    def __or__(self, other):
        check_other_house(other, self._things)
        rankings = self._rankings + other.rankings
        return House(*rankings)

    def __and__(self, other):
        check_other_house(other, self._things)
        steps = joining_steps([self._crest_masks, other.crest_masks])
        foreign = dead_end(steps)
        if foreign is not None:
            raise NoHouse(names_of(indexes_of(foreign), self._things))
        # No two of the rows are equal: so House tells their least number, if it is too great.
        return house_of_rows(fewest_rows(steps), self._things)

    def __contains__(self, x):
        if not isinstance(x, Ranking) or x.things != self._things:
            return False
        pairs = [(mask, masks) for mask, masks in zip(below_masks(x.row, self._things), self._crest_masks)]
        return all([is_covered(mask, masks) for mask, masks in pairs])

    def __len__(self):
        return len(self._rankings)

    def __str__(self):
        return "; ".join([str(ranking) for ranking in self._rankings])

    def __repr__(self):
        return f"House of {len(self._rankings)} rankings"

    def __eq__(self, other):
        return isinstance(other, House) and self._things == other._things and self._crest_masks == other._crest_masks
