"""What a NAME, a pair and rising things are, by [2]; tuples of choices."""

import itertools
import unittest

from manyruns.shapes import is_name, is_names, is_pair, is_rising, is_truths, is_tuple_of, tuples_of
from tests.helpers import ODD_THINGS, nested


NO_NAMES = (
    "", "abcdefghi", "A", "aB", "a1", "1", "a b", " a", "a ", "a\n", "\n", "a_b", "a.b", "\u00e9", "\u0430",
    "\uff41", "`", "{", "\x00", None, True, False, 0, 1, -1, 10 ** 5000, [], (), ["a"], ("a",), ("a", "b"),
    nested(20, "a", tuple), nested(20, "a", list),
)


class ShapesTest(unittest.TestCase):

    def test_names(self):
        for thing in ("a", "z", "az", "abcdefgh", "zzzzzzzz", "true", "none"):
            with self.subTest(thing=thing):
                self.assertIs(is_name(thing), True)

    def test_no_names(self):
        for at, thing in enumerate(NO_NAMES):
            with self.subTest(at=at):
                self.assertIs(is_name(thing), False)

    def test_each_letter_is_in_a_name_and_no_other_sign(self):
        for number in range(400):
            with self.subTest(number=number):
                told = chr(number) in "abcdefghijklmnopqrstuvwxyz"
                self.assertIs(is_name(chr(number)), told)
                self.assertIs(is_name("ab" + chr(number)), told)

    def test_pairs(self):
        for thing in (("a", "b"), (1, 2), ((), ()), (None, True)):
            with self.subTest(thing=thing):
                self.assertIs(is_pair(thing), True)

    def test_no_pairs(self):
        for thing in ((), ("a",), ("a", "b", "c"), ["a", "b"], "ab", None, 2, True, nested(20, "ab", tuple)):
            with self.subTest(thing=thing):
                self.assertIs(is_pair(thing), False)

    def test_rising(self):
        for things in ((), [], ("b",), ("a", "b", "c"), ["a", "aa", "b"], (("a", "b"), ("a", "c"), ("b", "a"))):
            with self.subTest(things=things):
                self.assertIs(is_rising(things), True)

    def test_not_rising(self):
        for things in (("a", "a"), ("b", "a"), ("a", "c", "b"), ["b", "a", "c"], (("a", "b"), ("a", "b"))):
            with self.subTest(things=things):
                self.assertIs(is_rising(things), False)

    def test_rising_names(self):
        for thing, most in ((("a",), 1), (("a", "b"), 2), (("a", "b"), 4), (("a", "aa", "b", "c"), 4)):
            with self.subTest(thing=thing):
                self.assertIs(is_names(thing, most), True)

    def test_no_rising_names(self):
        for thing in ((), ("a", "b", "c"), ("b", "a"), ("a", "a"), ["a"], ["a", "b"], "a", "ab", None, 1, True, {}):
            with self.subTest(thing=thing):
                self.assertIs(is_names(thing, 2), False)
        for at, thing in enumerate(NO_NAMES):
            with self.subTest(at=at):
                self.assertIs(is_names((thing,), 2), False)
                self.assertIs(is_names(("a", thing), 2), False)
                self.assertIs(is_names((thing, "z"), 2), False)

    def test_tuples_of_choices(self):
        for many in range(4):
            for thing in itertools.product("abc", repeat=many):
                with self.subTest(thing=thing):
                    self.assertIs(is_tuple_of(thing, ("a", "b"), many), "c" not in thing)
                    self.assertIs(is_tuple_of(thing, ("a", "b", "c"), many + 1), False)
                    self.assertIs(is_tuple_of(list(thing), ("a", "b", "c"), many), False)
        for at, thing in enumerate(ODD_THINGS):
            with self.subTest(at=at):
                self.assertIs(is_tuple_of(thing, ("b",), 1), False)
                self.assertIs(is_tuple_of(("b", thing), ("b",), 2), False)

    def test_tuples_of_truths(self):
        for many in range(4):
            for thing in itertools.product((True, False), repeat=many):
                with self.subTest(thing=thing):
                    self.assertIs(is_truths(thing, many), True)
                    self.assertIs(is_truths(thing, many + 1), False)
                    self.assertIs(is_truths(list(thing), many), False)
                    for odd in (1, 0, None, "", "a", (), (True,), [True]):
                        self.assertIs(is_truths(thing + (odd,), many + 1), False)
        for at, thing in enumerate(ODD_THINGS):
            with self.subTest(at=at):
                self.assertIs(is_truths(thing, 2), False)

    def test_all_tuples_rising(self):
        self.assertEqual(tuples_of([]), [()])
        self.assertEqual(tuples_of([["a", "b"]]), [("a",), ("b",)])
        self.assertEqual(tuples_of([["a", "b"], [], ["c"]]), [])
        for choices in (("ab", "c", "abc"), ("abc", "abc"), ("a", "b", "cd")):
            self.assertEqual(tuples_of([list(some) for some in choices]), list(itertools.product(*choices)))


if __name__ == "__main__":
    unittest.main()
