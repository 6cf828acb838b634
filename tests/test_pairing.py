import unittest
from itertools import combinations
from random import Random

from menuhouses.joining import fewest_rows, joining_steps, ways_to_put
from menuhouses.masks import greatest, index_rows
from menuhouses.pairing import chains, loose_sets
from by_rows import SOME_OF_FIVE, house_of, joining, table


def is_part(one, other):
    return one & other == one


def some_masks(seed):
    """Up to nine unlike masks of three to five bits, in no order."""
    chance = Random(f"masks {seed}")
    return chance.sample(range(2 ** (3 + seed % 3)), chance.randint(1, 8 if seed % 3 == 0 else 9))


def most_loose(masks):
    """The most masks none of which is a part of another, by trying all."""
    return max(many for many in range(len(masks) + 1) for some in combinations(masks, many)
               if not any(is_part(one, other) or is_part(other, one) for one, other in combinations(some, 2)))


class Pairing(unittest.TestCase):
    def test_chains_and_loose_sets_are_as_many(self):
        for seed in range(300):
            masks = some_masks(seed)
            rows, loose = chains(masks), loose_sets(masks)
            self.assertEqual(sorted(at for row in rows for at in row), list(range(len(masks))))
            for row in rows:
                for high, low in zip(row, row[1:]):
                    self.assertTrue(is_part(masks[low], masks[high]))
            for one, other in combinations(loose, 2):
                self.assertFalse(is_part(masks[one], masks[other]) or is_part(masks[other], masks[one]))
            self.assertEqual(loose, sorted(set(loose)))
            self.assertEqual(len(loose), most_loose(masks))
            self.assertEqual(len(rows), len(loose))

    def test_all_parts_of_ten_things(self):
        # The most of them that are loose are the 252 with five things.
        masks = list(range(1024))
        self.assertEqual(len(chains(masks)), 252)
        self.assertEqual(len(loose_sets(masks)), 252)


class Masks(unittest.TestCase):
    def test_greatest(self):
        for seed in range(100):
            masks = some_masks(seed)
            told = [mask for mask in masks if not any(is_part(mask, other) for other in masks if other != mask)]
            self.assertEqual(sorted(greatest(masks + masks)), sorted(told))

    def test_index_rows(self):
        for many in range(6):
            told = [row for size in range(many + 1) for row in combinations(range(many), size)]
            self.assertEqual(list(index_rows(many)), told)


class Steps(unittest.TestCase):
    def test_rows_of_two_houses(self):
        for one in SOME_OF_FIVE:
            for other in SOME_OF_FIVE:
                may = joining([table(one), table(other)])
                steps = joining_steps([house_of(one).crest_masks, house_of(other).crest_masks])
                self.assertEqual(ways_to_put(steps)[31], len(may))
                if may:
                    rows = [tuple("abcde"[at] for at in row) for row in fewest_rows(steps)]
                    self.assertTrue(set(rows) <= set(may))
                    self.assertEqual(len(set(rows)), len(rows))


if __name__ == "__main__":
    unittest.main()
