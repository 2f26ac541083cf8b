"""The desk: [19], and [2] and [3] as far as they speak of it."""

import random
import unittest

from manyruns.bench import Bench
from manyruns.bodies import kind_of
from manyruns.desk import answers
from manyruns.errors import BadRow, TooGreat
from manyruns.evers import least_none
from manyruns.saytexts import say_text
from manyruns.sets import least_unanswered
from manyruns.sides import least_break
from manyruns.tabletexts import table_text
from tests.handbench import HandBench, Refused, random_deed
from tests.handtexts import is_desk_row, sheet_row
from tests.helpers import full_table, random_table, ring_table, sample_table

TABLE = table_text(sample_table())
BREAKS = "say s all p : p.x"
ROWS = ("add d a,d x,y", "add e - -", "mark a y,x", "mark a -", "drop b", "link a c", "cut a b", "begin b", "unbegin a",
        BREAKS, "say t all p some q : ( p~q.x,y since not ever ahead p.x )", "unsay s", "mend s", "undo", "told s",
        "broken", "moves")


def sheet(*rows, table=TABLE):
    return "\n".join((table, "bench") + rows)


class AnswersTest(unittest.TestCase):

    def check(self, told, *rows, table=TABLE):
        text = sheet(*rows, table=table)
        self.assertIs(sheet_row(text), None)
        self.assertEqual(answers(text), told)
        self.assertEqual([type(answers(text))] + [type(one) for one in answers(text)], [list] + [str] * len(told))
        self.assertEqual(answers(text=text), told)

    def test_none(self):
        self.check([])

    def test_deeds(self):
        self.check(["done", "a>a a>b b>a b>c c>c d>a d>d"], "add d a,d x,y", "moves")
        self.check(["done", "a>a a>b b>a b>c c>c d>a d>c"], "add d c,a -", "moves")
        self.check(["done", "a>a a>b b>a b>c c>c d>d"], "add d - -", "moves")
        self.check(["done", "done", "false a b"], "mark a y", "say s all p : p.y", "told s")
        self.check(["done", "done", "true"], "mark b z,x", "say s all p : p.x", "told s")
        self.check(["done", "done", "true"], "mark c -", "say s all p : not p.y", "told s")
        self.check(["done", "a>a c>c"], "drop b", "moves")
        self.check(["done", "a>a a>b a>c b>a b>c c>c"], "link a c", "moves")
        self.check(["done", "a>b b>a b>c c>c"], "cut a a", "moves")
        self.check(["done", "done", "false b"], "begin b", "say s all p : ( p.x or ahead p.x )", "told s")
        self.check(["done", "done", "false 1"], "unbegin c", "say s some p : p.y", "told s")
        self.check(["done", "done", "refused NoSaying"], BREAKS, "unsay s", "told s")

    def test_by_what_stands_then(self):
        rows = ("add d a,d y,x", "link c d", "say s all p : ( not p.y or not ahead p.y )", "told s", "cut c c", "told s",
                "mark d -", "told s")
        self.check(["done", "done", "done", "false c c", "done", "false c d", "done", "true"], *rows)

    def test_mend(self):
        self.check(["done", "a>b", "a>a b>a b>c c>c", "-"], BREAKS, "mend s", "moves", "mend s")
        table = "state a\nstate b\nstate c\nstate d x\nbegin a\nmove a a\nmove a b\nmove a c\nmove b d\nmove c d\nmove d d"
        self.check(["done", "a>b a>c", "true"], "say s all p : not p.x", "mend s", "told s", table=table)

    def test_undo(self):
        self.check(["no"], "undo")
        self.check(["done", "a>b", "yes", "yes", "no", "a>a a>b b>a b>c c>c"], BREAKS, "mend s", "undo", "undo", "undo", "moves")
        self.check(["done", "refused Known", "yes", "no"], "begin b", "begin b", "undo", "undo")
        self.check(["done", "-", "yes", "done"], "say s all p : not p.z", "mend s", "undo", "unsay s")

    def test_told(self):
        for text, told in (("all p : ( p.x or not p.x )", "true"), ("all p : p.x", "false a b"),
                           ("all p all q : p~q.x", "false a,a a,b"), ("all p all q all r : p~q.y", "false a,c,a"),
                           ("all p some q : p~q.x", "true"), ("all p some q : not p~q.x", "false a"),
                           ("all p all q some r : ( p~q.x or r.z )", "false a,a a,b"), ("some p : p.x", "true"),
                           ("some p : not p.x", "false 1"), ("some p : not ahead p.x", "false 2"),
                           ("some p all q : p~q.x", "false 2"), ("some p all q : ( p.x or not q.y )", "true")):
            self.check(["done", told], f"say s {text}", "told s")

    def test_broken(self):
        self.check(["-"], "broken")
        self.check(["done", "-"], "say s all p : not p.z", "broken")
        self.check(["done"] * 4 + ["a b z", "a>b", "a", "yes", "a b z"], "say z all p : p.x", "say b all p : not ahead not p.x",
                   "say a some p : p.z", "say c some p : p.x", "broken", "mend z", "broken", "undo", "broken")

    def test_what_is_too_great_is_not_told_broken(self):
        table = table_text(full_table(4))
        self.check(["done", "refused TooGreat", "-", "refused TooGreat"],
                   "say s all p all q all r : ever ever ever ever p.x", "told s", "broken", "mend s", table=table)

    def test_each_refusal(self):
        for told, rows in (
                ("Known", ("add a - -",)), ("Known", ("link a b",)), ("Known", ("begin a",)), ("Known", (BREAKS, BREAKS)),
                ("NoState", ("add d z -",)), ("NoState", ("drop d",)), ("NoState", ("link a d",)), ("NoState", ("cut d a",)),
                ("NoState", ("mark d -",)), ("NoState", ("begin d",)), ("NoState", ("unbegin b",)),
                ("BadTable", ("add d a,a -",)), ("BadTable", ("add d - x,x",)), ("BadTable", ("mark a x,y,x",)),
                ("BadTable", ("mark a v,w,x,y,z",)), ("BadTable", ("add d - v,w,x,y,z",)),
                ("LastBegin", ("unbegin a", "unbegin c")), ("LastBegin", ("drop a", "drop c")), ("LastMove", ("cut c c",)),
                ("LastMove", ("cut b a", "drop c")), ("NoMove", ("cut a c",)), ("NoSaying", ("unsay s",)),
                ("NoSaying", ("mend s",)), ("NoSaying", ("told s",)), ("BadKind", ("say s some p : p.x", "mend s")),
                ("BadKind", ("say s all p some q : p.x", "mend s")), ("NoMend", ("say s all p : p.z", "mend s")),
                ("TooGreat", ("say s all p some q : ever ever p.x", "told s")),
                ("TooGreat", ("say s some p all q : ever ever p.x", "told s")),
                ("TooGreat", ("say s all p all q : ever ever ever p.x", "mend s"))):
            self.check(["done"] * (len(rows) - 1) + [f"refused {told}"], *rows)
            # Nothing comes of it.
            self.check(["done"] * (len(rows) - 1) + [f"refused {told}"] + ["yes"] * (len(rows) - 1) + ["no"],
                       *rows, *["undo"] * len(rows))
        self.check(["refused BadTable"], "add i - -", table=table_text(ring_table(8)))

    def test_names_as_the_words_are(self):
        table = "state bench\nstate undo all\nbegin bench\nmove bench undo\nmove undo bench"
        self.check(["done", "done", "false bench undo", "broken", "done", "bench>undo moves>bench undo>bench"],
                   "say broken all told : not told.all", "say undo some say : ( say.all or not say.all )", "told broken",
                   "broken", "add moves bench undo,all", "moves", table=table)

    def test_random_sheets_beside_a_bench_by_hand(self):
        chance = random.Random(161)
        found = []
        for _ in range(120):
            hands = [HandBench(random_table(chance, 4, 2))]
            table, rows, told = table_text(hands[0].table()), [], []
            while len(rows) < 25:
                row, answer = random_row(chance, hands)
                if is_desk_row(row):
                    rows.append(row)
                    told.append(answer())
                    found.append(told[-1].split(" ")[0] if "refused" not in told[-1] else told[-1])
            self.check(told, *rows, table=table)
        for answer in ("done", "yes", "no", "true", "false", "-", "refused Known", "refused NoState", "refused BadTable",
                       "refused LastBegin", "refused LastMove", "refused NoSaying", "refused BadKind", "refused NoMend",
                       "refused TooGreat", "refused NoMove"):
            self.assertGreater(found.count(answer), 3, answer)


def moves_text(moves):
    return " ".join(f"{one}>{other}" for one, other in moves) or "-"


def random_row(chance, hands):
    """A row and, to be called if it's taken, what it's answered by hand."""
    hand = hands[-1]
    word = chance.choice(("undo", "told", "told", "broken", "moves") + ("deed",) * 10)
    name = chance.choice(sorted(hand.sayings) * 3 + ["zz"])
    if word == "undo":
        return word, lambda: "yes" if len(hands) > 1 and hands.pop() else "no"
    if word == "told":
        return f"told {name}", lambda: told_by_hand(hand, name)
    if word == "broken":
        return word, lambda: " ".join(one for one in sorted(hand.sayings) if "false" in told_by_hand(hand, one)) or "-"
    if word == "moves":
        return word, lambda: moves_text(sorted(hand.moves))
    deed = random_deed(chance, hand)
    if deed[0] == "mend":
        deed = (*deed[:2], 2)
        return f"mend {deed[1]}", lambda: done_by_hand(hands, deed)
    if deed[0] == "say":
        return f"say {deed[1]} {say_text(deed[2])}", lambda: done_by_hand(hands, deed)
    words = [word if isinstance(word, str) else ",".join(word) or "-" for word in deed]
    return " ".join(words), lambda: done_by_hand(hands, deed)


def done_by_hand(hands, deed):
    try:
        hand, told = hands[-1].after(deed)
    except Refused as refused:
        return f"refused {refused.told[0]}"
    hands.append(hand)
    return "done" if deed[0] != "mend" else moves_text(told)


def told_by_hand(hand, name):
    if name not in hand.sayings:
        return "refused NoSaying"
    saying = hand.sayings[name]
    try:
        least = {"all": least_break, "answer": least_unanswered}.get(kind_of(saying), least_none)(hand.table(), saying)
    except TooGreat:
        return "refused TooGreat"
    if least is None:
        return "true"
    return f"false {least}" if isinstance(least, int) else "false " + " ".join(",".join(step) for step in least)


class RefusedTest(unittest.TestCase):

    def check(self, row, text):
        """Refused with this row; not so where it's None."""
        self.assertEqual(sheet_row(text), row, text)
        if row is None:
            self.assertIs(type(answers(text)), list)
            return
        with self.assertRaises(ValueError, msg=text) as caught:
            answers(text)
        self.assertIs(type(caught.exception), BadRow)
        self.assertEqual((caught.exception.row, type(caught.exception.row)), (row, int), text)

    def test_rows_not_so_written(self):
        first = len(TABLE.split("\n")) + 1
        for odd in ("", " ", "done", "Undo", "undo ", " undo", "undo s", "undo  s", "broken s", "moves a", "add", "add d",
                    "add d a", "add d a x y", "add d a x ", "add  d a x", "add d a,, x", "add d ,a x", "add d a x,",
                    "add d A x", "add D a x", "add d a, x", "add d -- x", "add d -,a x", "add d a -,x", "add d  x",
                    "add abcdefghi - -", "add d - abcdefghi", "mark a", "mark a x y", "mark - x", "mark a X", "mark a x, y",
                    "mark", "drop", "drop a b", "drop a,b", "drop -", "drop A", "link a", "link a b c", "link a,b", "link a>b",
                    "cut a", "cut a b c", "cut A b", "begin", "begin a b", "begin a1", "unbegin", "unbegin a ", "say",
                    "say s", "say s ", "say all p : p.x", "say S all p : p.x", "say  all p : p.x", "say s all p: p.x",
                    "say s all p : q.x", "say s all p : p.x ", "say s  all p : p.x", "say s all p : ( p.x )", "say s p.x",
                    "say s all p  : p.x", "say s all p : p.X", "unsay", "unsay s t", "mend", "mend s 1", "mend -", "told",
                    "told s t", "told -", "bench", "state d", "move a b", "# a", "tell s", "saying s", "says s all p : p.x",
                    "say\ts all p : p.x", "undo\t", "undo\r", "answers", "log", "twin", "as of 1"):
            self.check(first, sheet(odd))
            self.check(first + 2, sheet("undo", BREAKS, odd))
            self.check(first, sheet(odd, "undo", odd))

    def test_each_word_spoilt(self):
        first = len(TABLE.split("\n")) + 1
        chance = random.Random(162)
        for row in ROWS:
            self.check(None, sheet(row))
            for at, sign in enumerate(row):
                for odd in ("", " ", "A", ",", "-", "a", "0", sign * 2):
                    spoilt = row[:at] + odd + row[at + 1:]
                    self.check(None if is_desk_row(spoilt) else first, sheet(spoilt))
            ahead = [chance.choice(ROWS) for _ in range(chance.randint(0, 5))]
            self.check(first + len(ahead), sheet(*ahead, row + "\t", row))

    def test_a_line_feed_at_the_end(self):
        rows = len(TABLE.split("\n"))
        self.check(rows + 1, sheet() + "\n")
        self.check(rows + 2, sheet("undo") + "\n")
        self.check(rows, TABLE + "\n")

    def test_rows_of_the_table_as_table_in(self):
        rows = TABLE.split("\n")
        for at, row in enumerate(rows):
            for odd in ("", row + " ", " " + row, row.upper(), "undo", "state", rows[0] if at else "begin a", "begin z",
                        "move a z", "moves", "state c x y"):
                if odd != row:
                    text = "\n".join(rows[:at] + [odd] + rows[at + 1:])
                    self.check(sheet_row(text + "\nbench"), text + "\nbench")
                    self.check(sheet_row(text + "\nbench\nodd"), text + "\nbench\nodd")
                    self.check(sheet_row(text), text)
        self.check(1, "state a\nstate A\nbench\nodd")
        self.check(0, "begin a\nbench")

    def test_a_table_that_is_not_whole_at_bench(self):
        self.check(0, "bench")
        self.check(0, "bench\nundo")
        self.check(0, "bench\nodd")
        self.check(1, "state a\nbench")
        self.check(2, "state a\nbegin a\nbench\nundo")
        self.check(2, "state a\nmove a a\nbench\nodd")
        self.check(4, "state a\nstate b\nbegin a\nmove a b\nbench\nundo\nodd")
        self.check(None, "state a\nbegin a\nmove a a\nbench\nundo")

    def test_a_sheet_without_bench(self):
        self.check(0, "")
        self.check(10, TABLE)
        self.check(1, "state a")
        self.check(3, "state a\nbegin a\nmove a a")
        self.check(3, "state a\nbegin a\nmove a a\nundo")
        self.check(3, "state a\nbegin a\nmove a a\nbench ")
        self.check(3, "state a\nbegin a\nmove a a\n")
        self.check(1, "state a\nundo\nmove a a")
        self.check(10, TABLE + "\nundo\nodd")

    def test_the_least_number_goes(self):
        first = len(TABLE.split("\n")) + 1
        self.check(1, TABLE.replace("state b", "state B") + "\nbench\nodd\nodd")
        self.check(2, "state a\nbegin a\nbench\nodd")
        self.check(first, sheet("odd", "bench", ""))
        self.check(first + 1, sheet("undo", "bench", "odd"))

    def test_ahead_of_all(self):
        # What would be refused when it's done is not come to.
        self.check(len(TABLE.split("\n")) + 3, sheet("drop z", "add a a,a -", "odd"))

    def test_random_sheets_spoilt(self):
        chance = random.Random(163)
        told = []
        for _ in range(400):
            rows = table_text(random_table(chance, 3, 2)).split("\n") + ["bench"]
            rows += [chance.choice(ROWS) for _ in range(chance.randint(0, 4))]
            for _ in range(chance.randint(0, 2)):
                at = chance.randrange(len(rows))
                rows[at:at + 1] = chance.choice(([], ["bench"], [rows[at]] * 2, ["odd"], [rows[at] + " "], ["state a"],
                                                 ["undo"], [rows[at], ""]))
            text = "\n".join(rows)
            told.append(sheet_row(text))
            self.check(told[-1], text)
        self.assertGreater(told.count(None), 100)
        self.assertGreater(len(set(told)), 8)

    def test_two_hundred_rows(self):
        rows = ["begin b", "unbegin b"] * 90
        self.check(None, sheet(*rows))
        self.assertEqual(answers(sheet(*rows, "moves")), ["done"] * 180 + ["a>a a>b b>a b>c c>c"])
        self.check(10 + 1 + 180, sheet(*rows, "odd"))


if __name__ == "__main__":
    unittest.main()
