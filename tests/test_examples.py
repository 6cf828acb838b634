"""The examples of the interface, as they stand there."""

import unittest

from menuhouses import errors

EXAMPLES = [
    """
>>> from menuhouses.rankings import Ranking
>>> one = Ranking.of("b", "a", "c")
>>> [one.best(("a", "c")), one.below("a"), str(-one), one[2], str(one.without("a")), one.things, "d" in one, one == Ranking.read("b a c")]
['a', ('c',), 'c a b', 'c', 'b c', ('a', 'b', 'c'), False, True]
""",
    """
>>> from menuhouses.rankings import Ranking
>>> Ranking(("b", "a", "b"))
raises InvalidRow(index=2)
""",
]


def told(row, names):
    """What the row of an example tells: None, the text of its value, or its error."""
    try:
        value = eval(compile(row, "example", "single" if " import " in row or " = " in row else "eval"), names)
    except (errors.WrongValue, errors.WrongName, errors.NoAnswer) as error:
        kept = ", ".join(f"{name}={value!r}" for name, value in vars(error).items())
        return f"raises {error.__class__.__name__}({kept})"
    return None if value is None else repr(value)


class Examples(unittest.TestCase):
    def test_each_example(self):
        for example in EXAMPLES:
            names, answer, answers = {}, None, 0
            for line in example.strip().split("\n"):
                if line.startswith(">>> "):
                    self.assertIsNone(answer)
                    answer = told(line[4:], names)
                else:
                    self.assertEqual(answer, line)
                    answer, answers = None, answers + 1
            self.assertIsNone(answer)
            self.assertGreater(answers, 0)


if __name__ == "__main__":
    unittest.main()
