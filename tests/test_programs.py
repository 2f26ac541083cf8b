"""Programs: [8], and [2] and [3] as far as they speak of programs."""

import itertools
import random
import unittest

from manyruns.errors import BadRow
from manyruns.programs import Program, is_figure
from tests.handprograms import SAMPLE, Hand, random_text, told_row
from tests.helpers import kinds

class ProgramCase(unittest.TestCase):

    def check_refused(self, row, text):
        self.assertEqual(told_row(text), row, text)
        with self.assertRaises(ValueError, msg=text) as caught:
            Program(text)
        self.assertIs(type(caught.exception), BadRow)
        self.assertEqual(caught.exception.row, row, text)
        self.assertIs(type(caught.exception.row), int)

    def check_made(self, text):
        """Made, and all it tells of all numbers that can come is as gone through by hand."""
        self.assertIsNone(told_row(text), text)
        program, hand = Program(text), Hand(text)
        self.assertEqual(program.names(), [*hand.vars, *hand.ins])
        self.assertEqual(program.starts(), hand.starts())
        self.assertEqual(kinds(program.starts()), kinds(hand.starts()))
        for numbers in self.numbers_of(hand):
            told = program.nexts(numbers)
            self.assertEqual(told, hand.nexts(numbers), (text, numbers))
            self.assertEqual(kinds(told), kinds(hand.nexts(numbers)))
            self.assertEqual(program.marks(numbers), hand.marks(numbers))
            self.assertEqual(kinds(program.marks(numbers)), kinds(hand.marks(numbers)))
        self.assertEqual(repr(program), text.replace("\n", " / "))
        self.assertEqual(program, Program(text))
        return program

    def numbers_of(self, hand):
        """All tuples of numbers, come to or not."""
        firsts = [range(int(words[1]) + 1) for words in hand.vars.values()]
        return itertools.product(*firsts, *hand.ins.values())


class MadeTest(ProgramCase):

    def test_one_var(self):
        for most in (1, 2, 3):
            for begin in range(most + 1):
                program = self.check_made(f"var x {most} {begin}")
                self.assertEqual((program.names(), program.starts()), (["x"], [(begin,)]))
                for number in range(most + 1):
                    self.assertEqual(program.nexts((number,)), [(number,)])
                    self.assertEqual(program.marks((number,)), ())

    def test_the_sample_by_the_words(self):
        program = self.check_made(SAMPLE)
        self.assertEqual(program.names(), ["x", "y", "i"])
        self.assertEqual(program.starts(), [(1, 0, 0), (1, 0, 1)])
        self.assertEqual(program.nexts((1, 0, 1)), [(2, 1, 0), (2, 1, 1)])
        self.assertEqual(program.nexts((2, 0, 1)), [(0, 1, 0), (0, 1, 1)])
        self.assertEqual(program.nexts((2, 1, 1)), [(2, 0, 0), (2, 0, 1)])
        self.assertEqual(program.nexts(numbers=(1, 0, 0)), [(1, 1, 0), (1, 1, 1)])
        self.assertEqual(program.marks((2, 0, 1)), ("ib", "ya"))
        self.assertEqual(program.marks(numbers=(0, 1, 0)), ("ia", "yb"))

    def test_by_name(self):
        self.assertEqual(Program(text=SAMPLE), Program(SAMPLE))

    def test_sets_are_done_one_behind_the_other(self):
        program = self.check_made("var x 3 0\nvar y 3 0\nset x y + 1\nset y x + 1\nset x y")
        self.assertEqual(program.nexts((0, 0)), [(2, 2)])
        self.assertEqual(program.nexts((0, 3)), [(1, 1)])

    def test_taken_by_the_rest(self):
        for most in (1, 2, 3):
            for figure in range(10):
                program = self.check_made(f"var x {most} 1\nset x x + {figure}")
                self.assertEqual(program.nexts((1,)), [((1 + figure) % (most + 1),)])
                program = self.check_made(f"var x {most} 1\nset x x - {figure}")
                self.assertEqual(program.nexts((0,)), [((-figure) % (most + 1),)])
                self.check_made(f"var x {most} 1\nset x {figure}")
                self.check_made(f"var x {most} 1\nset x {figure} - x")

    def test_when_is_by_the_terms_numbers_not_by_their_rests(self):
        program = self.check_made("var x 1 0\nset x 1 when x - 1 < 0")
        self.assertEqual(program.nexts((0,)), [(1,)])
        program = self.check_made("var x 1 0\nset x 1 when x + 9 = 9")
        self.assertEqual(program.nexts((0,)), [(1,)])
        program = self.check_made("var x 1 0\nset x 1 when x + 2 = 0")
        self.assertEqual(program.nexts((0,)), [(0,)])

    def test_all_signs_and_terms(self):
        terms = ("x", "y", "i", "0", "7", "x + i", "y - 2", "3 - x", "1 + 1", "x - x")
        for one, sign, other in itertools.product(terms, "=<>", terms):
            self.check_made(f"var x 2 0\nvar y 1 1\nin i 1\nset y 1 - y when {one} {sign} {other}")
        for one, sign, other in itertools.product("xyi09", "+-", "xyi19"):
            self.check_made(f"var x 2 0\nvar y 1 1\nin i 1\nset x {one} {sign} {other}\nset y x when i < x {sign} 1")

    def test_ins_are_read_anew(self):
        program = self.check_made("var x 1 0\nin i 3\nin j 1\nset x i when 0 = 0")
        self.assertEqual(len(program.starts()), 8)
        self.assertEqual(program.nexts((0, 2, 1)), [(0, one, other) for one in range(4) for other in range(2)])
        self.assertEqual(program.nexts((0, 3, 1)), [(1, one, other) for one in range(4) for other in range(2)])

    def test_names_called_as_the_words_are(self):
        self.check_made("var var 1 0\nin in 1\nshow in\nshow var\nset var in")
        self.check_made("var when 1 0\nvar set 2 1\nin show 1\nshow show\nset when when when when = when"
                        "\nset set when + show when show - when < set + 1")
        self.check_made("var abcdefgh 1 0\nvar abcdefg 1 1\nshow abcdefg\nset abcdefgh abcdefg - abcdefgh")

    def test_marks_rise_whatever_the_order_of_rows(self):
        program = self.check_made("var b 3 3\nvar ba 1 0\nvar a 1 0\nin c 1\nshow c\nshow b\nshow a\nshow ba")
        self.assertEqual(program.marks((0, 0, 1, 1)), ("ab", "ba", "baa", "cb"))
        self.assertEqual(program.marks((3, 1, 0, 0)), ("aa", "bab", "bd", "ca"))

    def test_as_many_as_there_may_be(self):
        seven = "\n".join(f"var {name} 1 0" for name in "abcdefg")
        self.check_made(seven)
        self.check_made(seven + "\nshow a\nshow b\nshow c\nshow g")
        self.check_made("var a 3 0\nvar b 3 1\nvar c 3 2\nvar d 3 3\nset a b\nset d a + c when b > 0")
        self.check_made("var a 3 0\nvar b 3 1\nvar c 1 1\nin d 3\nin e 1\nset a d\nset b e when d = c")
        self.check_made("var a 1 0\nvar b 1 0\nvar c 1 0\nvar d 1 0\nin e 1\nin f 1\nin g 1")
        self.check_made("var a 1 0\nin b 2\nin c 1")
        self.check_made("var a 1 0" + "\nset a 1 - a" * 19)
        self.check_made("var a 1 0" + "\nset a 1 - a" * 30)

    def test_random_ones(self):
        chance = random.Random(9)
        for _ in range(150):
            self.check_made(random_text(chance))

    def test_told_again_and_the_askers_own(self):
        program = Program(SAMPLE)
        for _ in range(2):
            names, starts, nexts = program.names(), program.starts(), program.nexts((0, 0, 0))
            self.assertEqual((names, starts, nexts), (["x", "y", "i"], [(1, 0, 0), (1, 0, 1)], [(0, 1, 0), (0, 1, 1)]))
            for told in (names, starts, nexts):
                told.append("z")
                told[0] = None
        self.assertEqual(program, Program(SAMPLE))

    def test_repr_and_equal(self):
        program = Program(SAMPLE)
        told = "var x 2 1 / var y 1 0 / in i 1 / show y / show i / set x x + i when y < 1 / set y 1 - y"
        self.assertEqual((repr(program), str(program), bool(program)), (told, told, True))
        self.assertEqual(repr(Program("var x 1 0")), "var x 1 0")
        self.assertIs(program == Program(SAMPLE), True)
        self.assertIs(program != Program(SAMPLE), False)
        for other in ("var x 2 1", SAMPLE + "\nset x x", SAMPLE.replace("show y\nshow i", "show i\nshow y")):
            self.assertIs(program == Program(other), False)
            self.assertIs(program != Program(other), True)
        for other in (SAMPLE, told, None, True, 0, [], (), Program, SAMPLE.split("\n")):
            self.assertIs(program == other, False)
            self.assertIs(other == program, False)


class RefusedTest(ProgramCase):

    def check_each_row(self, ahead, rows, behind=""):
        for row in rows:
            self.check_refused(ahead.count("\n"), ahead + row + behind)

    def test_the_bare_text_and_texts_without_a_var(self):
        self.check_refused(0, "")
        self.check_refused(0, "\n")
        self.check_refused(1, "in x 1")
        self.check_refused(2, "in x 1\nin y 1")
        self.check_refused(3, "in x 1\nin y 1\nshow y")
        self.check_refused(0, "show x")
        self.check_refused(0, "set x 1")
        self.check_refused(1, "in x 1\nset x 1")
        self.check_refused(2, "in x 1\nshow x\nvar y 1 0")

    def test_a_line_feed_at_the_end_and_bare_rows(self):
        for many in range(1, 8):
            text = "\n".join(SAMPLE.split("\n")[:many])
            self.check_refused(many, text + "\n")
            self.check_refused(many, text + "\n\n")
            self.check_refused(0, "\n" + text)
        self.check_refused(1, SAMPLE.replace("\n", "\n\n"))
        self.check_refused(1, "in x 1\n")

    def test_blanks_in_each_place(self):
        rows = SAMPLE.split("\n")
        for at, row in enumerate(rows):
            for place in range(len(row) + 1):
                if place in (0, len(row)) or row[place] == " ":
                    spoilt = rows[:at] + [row[:place] + " " + row[place:]] + rows[at + 1:]
                    self.check_refused(at, "\n".join(spoilt))
            for sign in ("\t", "  ", ",", ""):
                self.check_refused(at, "\n".join(rows[:at] + [row.replace(" ", sign, 1)] + rows[at + 1:]))

    def test_a_word_too_many_or_too_few(self):
        rows = SAMPLE.split("\n")
        for at, row in enumerate(rows):
            words = row.split(" ")
            for place in range(len(words)):
                fewer = " ".join(words[:place] + words[place + 1:])
                for spoilt in (fewer, row + " x", row + " 1", row + " when", row + " +", row + " = x"):
                    text = "\n".join(rows[:at] + [spoilt] + rows[at + 1:])
                    self.assertIsNotNone(told_row(text), text)
                    self.check_refused(told_row(text), text)

    def test_strange_words_in_each_place(self):
        rows = SAMPLE.split("\n")
        strange = ("z", "Z", "X", "0", "3", "4", "9", "10", "01", "-1", "+1", "=", "+", "-", "<=", "==", "when", "var",
                   "show", "x1", "\u0661", "\u00b2", "x\r", "abcdefghi", "_", "*", "!")
        for at, row in enumerate(rows):
            words = row.split(" ")
            for place, word in itertools.product(range(len(words)), strange):
                text = "\n".join(rows[:at] + [" ".join(words[:place] + [word] + words[place + 1:])] + rows[at + 1:])
                if told_row(text) is None:
                    self.check_made(text)
                else:
                    self.check_refused(told_row(text), text)

    def test_var(self):
        self.check_each_row("var x 1 0\n", (
            "var", "var y", "var y 1", "var y 1 0 0", "var y 0 0", "var y 4 0", "var y 1 2", "var y 2 3", "var y 3 4",
            "var y 01 0", "var y 1 00", "var y 1 -1", "var y -1 0", "var y a 0", "var y 1 a", "var x 1 0", "var x 3 3",
            "var Y 1 0", "var abcdefghi 1 0", "var 1 1 0", "Var y 1 0", "vary 1 0", "var y 10 0", "var y 1 10"))

    def test_in(self):
        self.check_each_row("var x 1 0\nin i 1\n", (
            "in", "in y", "in y 1 0", "in y 0", "in y 4", "in y 7", "in y 9", "in y 01", "in y a", "in x 1", "in i 1",
            "in Y 1", "in abcdefghi 1", "in 1 1", "var y 1 0", "in i 2"))

    def test_show(self):
        self.check_each_row("var x 1 0\nvar abcdefgh 1 0\nin i 1\nshow x\n", (
            "show", "show i x", "show x", "show y", "show abcdefgh", "show 1", "show X", "var y 1 0", "in y 1"))
        self.check_each_row("var x 1 0\nin i 1\nin abcdefgh 1\n", ("show abcdefgh", "show abcdefg"))

    def test_set(self):
        self.check_each_row("var x 1 0\nvar y 2 0\nin i 1\nshow x\n", (
            "set", "set x", "set i 1", "set i x", "set z 1", "set x z", "set x 10", "set x -1", "set x + 1", "set x x +",
            "set x + x", "set x x + y + 1", "set x x * y", "set x x y", "set x x + z", "set x z - x", "set x x = y",
            "set x 1 when", "set x 1 when x", "set x 1 when x =", "set x 1 when = x", "set x 1 when x x",
            "set x 1 when x = z", "set x 1 when z = x", "set x 1 when x == y", "set x 1 when x = y = i",
            "set x 1 when x = y when y = x", "set x 1 when x + = y", "set x 1 when x = y +", "set x 1 when x < + y",
            "set x 1 if x = y", "set x when x = y", "set x 1 + when x = y", "set x 1 when x + y", "set x 1 x = y",
            "set x 1 when x = y + 1 + 1", "set x 1 when x + 1 + 1 = y", "set x 1 when x - 1", "set 1 x",
            "show i x", "in z 1", "var z 1 0"), "\nset x x")

    def test_the_order_of_kinds(self):
        rows = ("var y 1 0", "in j 1", "show x", "set x 1")
        for one, other in itertools.product(range(4), repeat=2):
            text = "\n".join(["var x 1 0", rows[one], rows[other].replace("y", "z").replace("j", "k")])
            if other < one:
                self.check_refused(2, text)
            elif (one, other) != (2, 2):
                self.check_made(text)
        self.check_refused(1, "in j 1\nvar x 1 0")

    def test_seven_vars_and_ins(self):
        seven = "\n".join(f"var {name} 1 0" for name in "abcdefg")
        self.check_refused(7, seven + "\nvar h 1 0")
        self.check_refused(7, seven + "\nin h 1")
        self.check_refused(7, "\n".join(seven.split("\n")[:6]) + "\nin g 1\nin h 1")

    def test_four_shown(self):
        self.check_refused(9, "var a 1 0\nvar b 1 0\nvar c 1 0\nvar d 1 0\nvar e 1 0\n"
                              + "\n".join(f"show {name}" for name in "abcde"))

    def test_numbers_multiplied(self):
        self.check_refused(3, "var a 1 0\nin b 2\nin c 1\nin d 1")
        self.check_refused(2, "var a 1 0\nin b 2\nin c 2")
        self.check_refused(3, "var a 1 0\nin b 3\nin c 1\nin d 1")
        self.check_refused(4, "var a 1 0\nin b 1\nin c 1\nin d 1\nin e 1")
        self.check_refused(4, "var a 3 0\nvar b 3 0\nvar c 3 0\nvar d 3 0\nvar e 1 0")
        self.check_refused(4, "var a 3 0\nvar b 3 0\nvar c 3 0\nvar d 3 0\nin e 1")
        self.check_refused(5, "var a 3 0\nvar b 3 0\nvar c 2 0\nvar d 1 0\nin e 1\nin f 1")
        self.check_refused(4, "var a 2 0\nvar b 2 0\nvar c 2 0\nvar d 3 0\nvar e 2 0")

    def test_the_first_row_that_is_not_so_goes(self):
        self.check_refused(1, "var x 1 0\nshow y\nset z 1\nvar x 1 0\n")
        self.check_refused(0, "var x 1 2\nvar x 1 0\n")
        self.check_refused(2, "in x 1\nshow x\nshow x")

    def test_random_texts_spoilt(self):
        chance = random.Random(10)
        for _ in range(1500):
            text = random_text(chance)
            rows = text.split("\n")
            at = chance.randrange(len(rows))
            words = rows[at].split(" ")
            way = chance.randrange(4)
            if way == 0:
                words[chance.randrange(len(words))] = chance.choice(("a", "b", "i", "0", "2", "5", "+", "=", "when", ""))
            elif way == 1:
                words.insert(chance.randrange(len(words) + 1), chance.choice(("a", "i", "1", "-", "<", "when", "")))
            elif way == 2:
                words.pop(chance.randrange(len(words)))
            rows[at] = " ".join(words)
            if way == 3:
                chance.shuffle(rows)
            text = "\n".join(rows)
            row = told_row(text)
            if row is None:
                Program(text)
            else:
                self.check_refused(row, text)


class FigureTest(unittest.TestCase):

    def test_figures(self):
        for number in range(300):
            self.assertIs(is_figure(chr(number)), chr(number) in "0123456789")
        for word in ("", "00", "10", "-1", "\u0661", "0\n"):
            self.assertIs(is_figure(word), False)


if __name__ == "__main__":
    unittest.main()
