"""Texts of tables: [9], and [2] and [3] as far as they speak of them."""

import itertools
import random
import unittest

from manyruns.errors import BadRow
from manyruns.tables import Table
from manyruns.tabletexts import TableReading, table_in, table_text
from tests.handtexts import told_row
from tests.helpers import full_table, kinds, random_table, ring_table, sample_table

SAMPLE = ("state a x\nstate b\nstate c x y\nbegin a\nbegin c\n"
          "move a a\nmove a b\nmove b a\nmove b c\nmove c c")


class TextCase(unittest.TestCase):

    def check_refused(self, row, text):
        self.assertEqual(told_row(text), row, text)
        with self.assertRaises(ValueError, msg=text) as caught:
            table_in(text)
        self.assertIs(type(caught.exception), BadRow)
        self.assertEqual(caught.exception.row, row, text)
        self.assertIs(type(caught.exception.row), int)

    def check_both_ways(self, table, text=None):
        told = table_text(table)
        self.assertEqual(told, text or told)
        self.assertIsNone(told_row(told), told)
        again = table_in(told)
        self.assertEqual(again, table)
        for one, other in zip((again.states, again.moves, again.begins, again.shows),
                              (table.states, table.moves, table.begins, table.shows)):
            self.assertEqual((one, kinds(one)), (other, kinds(other)))
        self.assertEqual(table_text(table=table_in(text=told)), told)


class BothWaysTest(TextCase):

    def test_the_sample(self):
        self.check_both_ways(sample_table(), SAMPLE)

    def test_one_state(self):
        self.check_both_ways(ring_table(1), "state a\nbegin a\nmove a a")

    def test_four_marks_and_long_names(self):
        table = Table(("abcdefgh", "b"), (("abcdefgh", "b"), ("b", "abcdefgh")), begins=("b",),
                      shows=(("abcdefgh", ("abcdefgh", "b", "c", "zzzzzzzz")),))
        self.check_both_ways(table, "state abcdefgh abcdefgh b c zzzzzzzz\nstate b\nbegin b\nmove abcdefgh b\n"
                                    "move b abcdefgh")

    def test_names_called_as_the_words_are(self):
        table = Table(("begin", "move", "state"), (("begin", "state"), ("move", "move"), ("state", "begin")),
                      begins=("begin", "state"), shows=(("move", ("begin", "state")),))
        self.check_both_ways(table, "state begin\nstate move begin state\nstate state\nbegin begin\nbegin state\n"
                                    "move begin state\nmove move move\nmove state begin")

    def test_as_great_as_may_be(self):
        states = tuple("abcdefgh")
        moves = tuple(sorted((one, other) for one in states for other in "adh"))
        self.check_both_ways(Table(states, moves, begins=states, shows=tuple((one, tuple("wxyz")) for one in states)))
        self.check_both_ways(full_table(4))
        self.check_both_ways(ring_table(8))

    def test_random_tables(self):
        chance = random.Random(12)
        for _ in range(300):
            self.check_both_ways(random_table(chance, 8, 3))

    def test_the_table_is_unchanged_and_each_one_new(self):
        table = sample_table()
        self.assertEqual((table_text(table), table_text(table), table), (SAMPLE, SAMPLE, sample_table()))
        self.assertIsNot(table_in(SAMPLE), table_in(SAMPLE))


class RefusedTest(TextCase):

    def check_row(self, at, spoilt):
        """The sample with this in the row's stead."""
        rows = SAMPLE.split("\n")
        self.check_refused(at, "\n".join(rows[:at] + [spoilt] + rows[at + 1:]))

    def test_the_bare_text_and_bare_rows(self):
        self.check_refused(0, "")
        self.check_refused(0, "\n")
        self.check_refused(0, "\n" + SAMPLE)
        rows = SAMPLE.split("\n")
        for at in range(1, 11):
            self.check_refused(at, "\n".join(rows[:at] + [""] + rows[at:]))
        self.check_refused(10, SAMPLE + "\n")
        self.check_refused(10, SAMPLE + "\n\n")

    def test_blanks_in_each_place(self):
        for at, row in enumerate(SAMPLE.split("\n")):
            for place in range(len(row) + 1):
                if place in (0, len(row)) or row[place] == " ":
                    self.check_row(at, row[:place] + " " + row[place:])
            for sign in ("\t", "", ",", "\u00a0"):
                self.check_row(at, row.replace(" ", sign, 1))

    def test_strange_words_in_each_place(self):
        rows = SAMPLE.split("\n")
        for at, row in enumerate(rows):
            words = row.split(" ")
            for place in range(len(words)):
                for word in ("A", "", "1", "a1", "abcdefghi", "a_", "\u00e9", "State", "-", "b", "d", "state", "begin"):
                    text = "\n".join(rows[:at] + [" ".join(words[:place] + [word] + words[place + 1:])] + rows[at + 1:])
                    if told_row(text) is None:
                        self.check_both_ways(table_in(text), text)
                    else:
                        self.check_refused(told_row(text), text)

    def test_a_word_too_many_or_too_few(self):
        for at, row in enumerate(SAMPLE.split("\n")):
            self.check_row(at, row.split(" ")[0])
            if not row.startswith("state"):
                self.check_row(at, row + " a")
            if row.startswith("move"):
                self.check_row(at, row[:-2])

    def test_other_words(self):
        for word in ("", "stat", "states", "State", "STATE", "show", "var", "moves", "bench", "add", "1"):
            for at, row in enumerate(SAMPLE.split("\n")):
                self.check_row(at, " ".join([word] + row.split(" ")[1:]))

    def test_the_order_of_kinds(self):
        rows = ("state d", "begin c", "move c c")
        ahead = {0: "state a\nstate c", 1: "state a\nstate c\nbegin a", 2: "state a\nstate c\nbegin a\nmove a a"}
        for kind, text in ahead.items():
            for other, row in enumerate(rows):
                at = text.count("\n") + 1
                if other < kind:
                    self.check_refused(at, text + "\n" + row)
                else:
                    self.check_refused(at + 1, text + "\n" + row + "\n")
        self.check_refused(0, "begin a\nstate a\nmove a a")
        self.check_refused(2, "state a\nmove a a\nbegin a")

    def test_rows_that_do_not_rise(self):
        rows = SAMPLE.split("\n")
        for at, row in enumerate(rows):
            self.check_refused(at + 1, "\n".join(rows[:at + 1] + [row] + rows[at + 1:]))
            if at + 1 < len(rows) and rows[at + 1].split(" ")[0] == row.split(" ")[0]:
                text = "\n".join(rows[:at] + [rows[at + 1], row] + rows[at + 2:])
                self.check_refused(at + 1, text)
        self.check_refused(1, "state a x\nstate a y\nbegin a\nmove a a")
        self.check_refused(1, "state aa\nstate a\nbegin a\nmove a a\nmove aa a")

    def test_marks(self):
        for marks in ("y x", "x x", "x y y", "a c b", "x 1", "X", "abcdefghi", "a b c d e", "a b c d d", "b a c d e"):
            self.check_refused(0, f"state a {marks}\nbegin a\nmove a a")
            self.check_row(2, f"state c {marks}")
        self.check_both_ways(table_in("state a w x y z\nbegin a\nmove a a"))

    def test_strange_states(self):
        self.check_row(3, "begin d")
        self.check_row(4, "begin x")
        for at in range(5, 10):
            self.check_row(at, "move a d")
            self.check_row(at, "move d a")
            self.check_row(at, "move x y")

    def test_a_ninth_state(self):
        states = "\n".join(f"state {name}" for name in "abcdefghi")
        self.check_refused(8, states)
        self.check_refused(8, states + "\nbegin a\n" + "\n".join(f"move {name} a" for name in "abcdefghi"))
        self.check_refused(8, states.replace("\nstate i", "\nstate 1"))

    def test_a_twenty_fifth_move(self):
        states = "\n".join(f"state {name}" for name in "abcde") + "\nbegin a\n"
        moves = [f"move {one} {other}" for one, other in itertools.product("abcde", repeat=2)]
        self.check_refused(30, states + "\n".join(moves))
        self.check_refused(30, states + "\n".join(moves) + "\nmove")
        for at in range(25):
            self.check_both_ways(table_in(states + "\n".join(moves[:at] + moves[at + 1:])))

    def test_a_begin_or_a_move_that_is_wanting(self):
        rows = SAMPLE.split("\n")
        for many in range(1, 10):
            self.check_refused(many, "\n".join(rows[:many]))
        self.check_refused(8, "\n".join(rows[:3] + rows[5:]))
        self.check_refused(8, "\n".join(rows[:5] + rows[7:]))
        self.check_refused(8, "\n".join(rows[:7] + rows[9:]))
        self.check_refused(9, "\n".join(rows[:9]))
        self.check_refused(1, "state a")
        self.check_refused(2, "state a\nbegin a")
        self.check_refused(2, "state a\nmove a a")
        self.check_refused(5, "state a\nstate b\nbegin a\nmove a a\nmove a b")

    def test_the_first_row_that_is_not_so_goes(self):
        self.check_refused(0, "state A\nstate\nbegin z\n")
        self.check_refused(2, "state a\nbegin a\nbegin a\nmove z z")
        self.check_refused(1, "state b\nstate a\n")

    def test_random_texts_spoilt(self):
        chance = random.Random(13)
        for _ in range(1500):
            rows = table_text(random_table(chance, 8, 3)).split("\n")
            at = chance.randrange(len(rows))
            words = rows[at].split(" ")
            way = chance.randrange(6)
            if way == 0:
                words[chance.randrange(len(words))] = chance.choice(("a", "b", "h", "x", "1", "move", "state", ""))
            elif way == 1:
                words.insert(chance.randrange(len(words) + 1), chance.choice(("a", "h", "x", "z", "")))
            elif way == 2:
                words.pop(chance.randrange(len(words)))
            rows[at] = " ".join(words)
            if way == 3:
                rows.insert(chance.randrange(len(rows) + 1), chance.choice(rows))
            elif way == 4:
                rows.pop(at)
            elif way == 5:
                other = chance.randrange(len(rows))
                rows[at], rows[other] = rows[other], rows[at]
            text = "\n".join(rows)
            row = told_row(text)
            if row is None:
                self.check_both_ways(table_in(text), text)
            else:
                self.check_refused(row, text)


class ReadingTest(unittest.TestCase):

    def test_rows_taken_one_by_one(self):
        reading = TableReading()
        for row in SAMPLE.split("\n"):
            self.assertIs(reading.take(row.split(" ")), True)
        self.assertEqual(reading.made(), sample_table())
        self.assertIs(TableReading().take(["begin", "a"]), False)


if __name__ == "__main__":
    unittest.main()
