import unittest

from menuhouses import limits


class Limits(unittest.TestCase):
    def test_each_limit_has_its_number(self):
        told = [limits.MOST_THINGS, limits.MOST_PEOPLE, limits.MOST_LOOKS, limits.TABLE_THINGS]
        self.assertEqual(told, [10, 24, 12, 5])
        self.assertEqual([limit.__class__ for limit in told], [int] * 4)


if __name__ == "__main__":
    unittest.main()
