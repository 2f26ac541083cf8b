"""The bounds of [3] that rules.py tells."""

import unittest

from manyruns import rules


class RulesTest(unittest.TestCase):

    def test_the_values_that_the_document_tells(self):
        told = {
            "SIDES": 512,
            "SETS": 1024,
            "PLACES": 512,
            "SMALL": 64,
            "STATES": 8,
            "MENDS": 2,
        }
        for name, value in told.items():
            with self.subTest(name=name):
                self.assertEqual(getattr(rules, name), value)

    def test_the_bounds_of_tables(self):
        self.assertEqual((rules.MOVES, rules.MARKS, rules.LETTERS), (24, 4, 8))

    def test_the_bounds_of_sayings(self):
        self.assertEqual((rules.HEADS, rules.PARTS, rules.BACKS), (3, 12, 4))

    def test_the_bounds_of_programs(self):
        self.assertEqual((rules.HELD, rules.MOST, rules.SHOWN, rules.SHOWN_LETTERS), (7, 3, 4, 7))
        self.assertEqual((rules.IN_TUPLES, rules.TUPLES), (8, 256))

    def test_all_are_plain_numbers(self):
        for name, value in vars(rules).items():
            if name.isupper():
                with self.subTest(name=name):
                    self.assertIs(type(value), int)


if __name__ == "__main__":
    unittest.main()
