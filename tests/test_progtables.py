"""Tables of programs: [9], and [2] and [3] as far as they speak of them."""

import random
import unittest

from manyruns.errors import TooGreat
from manyruns.programs import Program
from manyruns.progtables import table_of
from tests.handprograms import SAMPLE, Hand, random_text
from tests.helpers import kinds


def name_of(numbers):
    return "s" + "".join("abcd"[number] for number in numbers)


def gone_through(text):
    """All tuples of numbers that can come, and all moves between them, by hand."""
    hand = Hand(text)
    come, fresh = set(), set(hand.starts())
    while fresh:
        come |= fresh
        fresh = {other for one in fresh for other in hand.nexts(one)} - come
    return sorted(come), sorted((one, other) for one in come for other in hand.nexts(one))


class TableOfTest(unittest.TestCase):

    def check_refused(self, many, text):
        with self.assertRaises(OverflowError) as caught:
            table_of(Program(text))
        self.assertIs(type(caught.exception), TooGreat)
        self.assertEqual(caught.exception.many, many)
        self.assertIs(type(caught.exception.many), int)

    def check(self, text):
        """As gone through by hand: the table, or how many there are where these are too many."""
        come, moves = gone_through(text)
        if len(come) > 8 or len(moves) > 24:
            self.check_refused(len(come) if len(come) > 8 else len(moves), text)
            return None
        hand, program = Hand(text), Program(text)
        told = (tuple(name_of(numbers) for numbers in come),
                tuple((name_of(one), name_of(other)) for one, other in moves),
                tuple(name_of(numbers) for numbers in hand.starts()),
                tuple((name_of(numbers), hand.marks(numbers)) for numbers in come if hand.shown))
        table = table_of(program)
        self.assertEqual((table.states, table.moves, table.begins, table.shows), told)
        self.assertEqual(kinds((table.states, table.moves, table.begins, table.shows)), kinds(told))
        self.assertEqual(table_of(program=program), table)
        return table

    def test_one_tuple(self):
        table = self.check("var x 1 0")
        self.assertEqual((table.states, table.moves, table.begins, table.shows),
                         (("sa",), (("sa", "sa"),), ("sa",), ()))
        table = self.check("var x 3 3\nshow x")
        self.assertEqual((table.states, table.shows), (("sd",), (("sd", ("xd",)),)))

    def test_more_tuples(self):
        table = self.check("var x 2 1\nvar y 1 0\nshow y\nshow x\nset x x + 1\nset y 1 - y when x = 0")
        self.assertEqual(table.states, ("saa", "sab", "sba", "sbb", "sca", "scb"))
        self.assertEqual(table.begins, ("sba",))
        self.assertEqual(table.moves, (("saa", "sba"), ("sab", "sbb"), ("sba", "sca"), ("sbb", "scb"), ("sca", "sab"),
                                       ("scb", "saa")))
        self.assertEqual(table.shows[0], ("saa", ("xa", "ya")))

    def test_several_begins(self):
        table = self.check("var x 1 1\nin i 2\nshow i")
        self.assertEqual((table.states, table.begins), (("sba", "sbb", "sbc"), ("sba", "sbb", "sbc")))
        self.assertEqual(table.shows, (("sba", ("ia",)), ("sbb", ("ib",)), ("sbc", ("ic",))))
        self.assertEqual(len(table), 9)

    def test_only_what_can_come(self):
        table = self.check("var x 3 0\nset x 2")
        self.assertEqual((table.states, table.moves), (("sa", "sc"), (("sa", "sc"), ("sc", "sc"))))
        self.assertEqual(self.check("var x 3 0\nvar y 3 0\nset x 1 - x\nset y x").states, ("saa", "sbb"))

    def test_four_shown_of_seven(self):
        text = "\n".join(f"var {name} 1 {number}" for name, number in zip("abcdefg", (0, 1, 0, 1, 0, 1, 0)))
        table = self.check(text + "\nshow g\nshow b\nshow a\nshow c\nset a 1 - a")
        self.assertEqual(table.states, ("sabababa", "sbbababa"))
        self.assertEqual(table.shows[1], ("sbbababa", ("ab", "bb", "ca", "ga")))

    def test_eight_tuples_and_nine(self):
        self.assertEqual(len(self.check("var x 3 0\nvar y 1 0\nset x x + 1\nset y 1 - y when x = 0").states), 8)
        self.check_refused(9, "var x 2 0\nvar y 2 0\nset x x + 1\nset y y + 1 when x = 0")
        self.check_refused(16, "var x 3 0\nvar y 3 0\nset x x + 1\nset y y + 1 when x = 0")
        self.check_refused(256, "var a 3 0\nvar b 3 0\nvar c 3 0\nvar d 3 0\nset a a + 1\nset b b + 1 when a = 0"
                                "\nset c c + 1 when a + b = 0\nset d d + 1 when a + b = 0 - c")

    def test_twenty_four_moves_and_more(self):
        self.assertEqual(len(self.check("var x 2 0\nin i 1\nin j 1\nset x 0").moves), 16)
        self.assertEqual(len(self.check("var x 3 0\nin i 1\nset x x + i").moves), 16)
        self.assertEqual(len(self.check("var x 1 0\nin i 2\nset x 1 when i = 1").moves), 18)
        self.check_refused(64, "var x 1 0\nin i 3\nin j 1")
        self.check_refused(36, "var x 1 0\nin i 2\nin j 1")
        self.check_refused(32, "var x 1 0\nin i 3\nset x 1 - x")

    def test_both_at_once(self):
        self.check_refused(16, "var x 1 0\nin i 3\nin j 1\nset x 1 - x")
        self.check_refused(12, "var x 2 0\nin i 3\nset x x + 1")

    def test_beside_going_through_by_hand(self):
        chance = random.Random(11)
        texts = [random_text(chance) for _ in range(300)]
        made = [text for text in texts if self.check(text) is not None]
        self.assertTrue(50 < len(made) < 290, len(made))

    def test_told_again_and_the_program_unchanged(self):
        program = Program("var x 2 1\nin i 1\nshow x\nset x x + i")
        first = table_of(program)
        self.assertEqual(table_of(program), first)
        self.assertIsNot(table_of(program), first)
        self.assertEqual(program, Program("var x 2 1\nin i 1\nshow x\nset x x + i"))
        self.check(SAMPLE)


if __name__ == "__main__":
    unittest.main()
