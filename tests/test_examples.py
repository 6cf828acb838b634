"""The examples of the interface, as they stand there."""

import unittest

from menuhouses import errors

EXAMPLES = [
    """
>>> from menuhouses.rankings import Ranking
>>> one = Ranking.of("b", "a", "c")
>>> [one.best(("a", "c")), one.below("a"), str(-one), one[2], str(one.without("a")), one.things, "d" in one, one == Ranking.read("b a c")]
['a', ('c',), 'c a b', 'c', 'b c', ('a', 'b', 'c'), False, True]
""",
    """
>>> from menuhouses.rankings import Ranking
>>> Ranking(("b", "a", "b"))
raises InvalidRow(index=2)
""",
    """
>>> from menuhouses.houses import House
>>> two = House.read("a b c; c b a")
>>> [two(("a", "b", "c")), two(("a", "b")), len(two), two == House.read("a b c; a c b; c b a"), House.read("a b c; c a b").within(two), two.table()]
[('a', 'c'), ('a', 'b'), 2, True, True, 'a           1    1\\nb           0    2\\nc           1    1']
""",
    """
>>> from menuhouses.houses import House
>>> from menuhouses.rankings import Ranking
>>> one, other = House.read("a b c; c b a"), House.read("a b c; c a b")
>>> [(one & other) == other, len(one & other), str(one | other), Ranking.of("a", "c", "b") in one, Ranking.of("b", "a", "c") in one]
[True, 2, 'a b c; c a b; c b a', True, False]
""",
    """
>>> from menuhouses.houses import House
>>> House.read("a b; b a") | House.read("a c; c a")
raises OtherThings(given=('a', 'c'))
""",
    """
>>> from menuhouses.comparing import crests, fewest_house, joiners, loose_crests, needless, parting_menu
>>> from menuhouses.houses import House
>>> two, more = House.read("a b c; c b a"), House.read("a b c; a c b; c b a")
>>> [crests(two), str(needless(more)[0]), parting_menu(two, House.read("a b c; c a b")), parting_menu(more, two)]
[(('a', ('b', 'c')), ('b', ('a',)), ('b', ('c',)), ('c', ('a', 'b'))), 'a c b', ('a', 'b'), None]
>>> [joiners(two), len(fewest_house(more)), len(loose_crests(more))]
[4, 2, 2]
""",
    """
>>> from menuhouses.comparing import all_joiners, joiner
>>> from menuhouses.houses import House
>>> two = House.read("a b c; c b a")
>>> [str(list(all_joiners(two))), str(list(all_joiners(two, best="c"))), str(joiner(two, 1))]
['[Ranking a b c, Ranking a c b, Ranking c a b, Ranking c b a]', '[Ranking c a b, Ranking c b a]', 'a c b']
""",
    """
>>> from menuhouses.looks import Look, Looks
>>> seen = Looks(("a", "b", "c"), (Look.read("a+ b+ c-"),))
>>> [seen.fit, str(seen.look(("a", "c"))), seen.answer(("b", "c"), "c"), str(seen.look(("a", "b"))), seen.can_be(("a", "c"), ("c",)), seen.settled(), seen.alone()]
[True, 'a+ c?', 'perhaps', 'a+ b+', False, False, None]
>>> more = seen.and_seen(Look.just(("a", "c"), ("a",)), Look.read("a- b+"))
>>> [more.fit, more.clash(), more.fewest_back(), seen.and_seen(Look.just(("a", "c"), ("a",))).answer(("b", "c"), "c")]
[False, (0, 2), (0,), 'perhaps']
""",
    """
>>> from menuhouses.looks import Look, Looks
>>> seen = Looks(("a", "b", "c"), (Look.read("a+ b- c-"), Look.read("a- b+")))
>>> seen.answer(("a", "c"), "a")
raises Clash(index=1)
""",
    """
>>> from menuhouses.houses import House
>>> from menuhouses.tables import house_of, table_of
>>> table = table_of(House.read("a b; b a"))
>>> [table, str(house_of(("a", "b"), table))]
[((('a',), ('a',)), (('a', 'b'), ('a', 'b')), (('b',), ('b',))), 'a b; b a']
""",
    """
>>> from menuhouses.books import Book
>>> from menuhouses.looks import Look
>>> book = Book(("a", "b", "c"))
>>> book[("a", "b", "c")] = ("a", "b")
>>> book.promise("perhaps", ("b", "c"), "c")
>>> [str(book[("a", "c")]), book.promises, book.changes, book.tried(len)]
['a+ c?', (('perhaps', ('b', 'c'), 'c'),), 2, 1]
>>> book.see(Look.read("b+ c-"))
raises Broken(index=0)
""",
    """
>>> from menuhouses.certificates import certify_alike, certify_answer, certify_fewest
>>> from menuhouses.checker import accepts
>>> from menuhouses.houses import House
>>> from menuhouses.looks import Look, Looks
>>> more = House.read("a b c; a c b; c b a")
>>> seen = Looks(("a", "b", "c"), (Look.read("a+ b+ c-"),))
>>> [certify_fewest(more)[0], certify_alike(more, House.read("a b c"))[0], certify_answer(seen, ("a", "c"), "a")[0]]
[('fewest', 'a b c; a c b; c b a', 2), ('apart', 'a b c; a c b; c b a', 'a b c'), ('surely', ('a', 'b', 'c'), ('a+ b+ c-',), ('a', 'c'), 'a')]
>>> claim = ("surely", ("a", "b", "c"), ("a+ b+ c-",), ("a", "c"), "a")
>>> [accepts(claim, ((0, "a"), ("a", "b", "c"))), accepts(claim, ((0, "b"), ("a", "b", "c"))), accepts(("apart", "a b; b a", "a b"), (("a", "b"), "b"))]
[True, False, True]
""",
]


def told(row, names):
    """What the row of an example tells: None, the text of its value, or its error."""
    try:
        value = eval(compile(row, "example", "single" if " import " in row or " = " in row else "eval"), names)
    except (errors.WrongValue, errors.WrongName, errors.NoAnswer) as error:
        kept = ", ".join(f"{name}={value!r}" for name, value in vars(error).items())
        return f"raises {error.__class__.__name__}({kept})"
    return None if value is None else repr(value)


class Examples(unittest.TestCase):
    def test_each_example(self):
        for example in EXAMPLES:
            names, answer, answers = {}, None, 0
            for line in example.strip().split("\n"):
                if line.startswith(">>> "):
                    self.assertIsNone(answer)
                    answer = told(line[4:], names)
                else:
                    self.assertEqual(answer, line)
                    answer, answers = None, answers + 1
            self.assertIsNone(answer)
            self.assertGreater(answers, 0)


if __name__ == "__main__":
    unittest.main()
