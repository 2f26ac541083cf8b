"""What deeds make of what stands, for [16]."""

import random
import unittest

from manyruns.changes import done
from tests.handbench import HandBench, Refused, random_deed, refusal_of
from tests.helpers import deep_copy, kinds, random_table, sample_table


class DoneTest(unittest.TestCase):

    def check(self, stand, deed, told):
        """What is told is the stand behind, and what the deed tells."""
        copies = deep_copy(deed), dict(stand[1]), kinds([stand[0].states, stand[0].moves])
        found = done(stand, deed)
        self.assertEqual((found, kinds(found[1])), (told, kinds(told[1])))
        self.assertEqual((deed, stand[1], kinds([stand[0].states, stand[0].moves])), copies)

    def test_of_tables_and_of_sayings(self):
        table, saying = sample_table(), ((("all", "p"),), ("has", "p", "x"))
        self.check((table, {}), ("say", "s", saying), ((table, {"s": saying}), None))
        self.check((table, {"s": saying, "t": saying}), ("unsay", "s"), ((table, {"t": saying}), None))
        self.check((table, {"s": saying}), ("cut", "a", "b"), ((table.without([("a", "b")]), {"s": saying}), None))
        self.check((table, {"s": saying}), ("mend", "s", 2),
                   ((table.without([("a", "b")]), {"s": saying}), (("a", "b"),)))

    def test_beside_a_bench_by_hand(self):
        chance = random.Random(141)
        told = []
        for _ in range(150):
            hand = HandBench(random_table(chance, 4, 3))
            stand = hand.table(), {}
            for _ in range(20):
                deed = random_deed(chance, hand)
                try:
                    hand, answer = hand.after(deed)
                except Refused as refused:
                    with self.assertRaises(Exception) as caught:
                        done(stand, deed)
                    self.assertEqual(refusal_of(caught.exception), refused.told)
                    told.append(refused.told[0])
                else:
                    self.check(stand, deed, ((hand.table(), hand.sayings), answer))
                    stand = done(stand, deed)[0]
                    told.append(deed[0])
        for name in ("Known", "NoState", "NoMove", "NoSaying", "LastMove", "LastBegin", "BadTable", "BadKind", "TooGreat",
                     "NoMend", "add", "drop", "link", "cut", "mark", "begin", "unbegin", "say", "unsay", "mend"):
            self.assertGreater(told.count(name), 5, name)


if __name__ == "__main__":
    unittest.main()
