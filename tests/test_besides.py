"""Runs that lead and runs beside them, for [11] to [13]."""

import itertools
import random
import unittest

from manyruns.besides import Beside, how_many_lead, many_nodes
from tests.handanswers import behind_by_words, firsts_by_words, leads, many_by_hand, moved, random_saying
from tests.helpers import random_table, ring_table, sample_table

SHAPES = tuple(words for many in (1, 2, 3) for words in itertools.product(("all", "some"), repeat=many)
               if list(words) in (sorted(words), sorted(words, reverse=True)))


class HowManyTest(unittest.TestCase):

    def test_how_many_lead(self):
        for words, told in ((("all",), 1), (("some", "some"), 2), (("all", "some"), 1), (("some", "all", "all"), 1),
                            (("all", "all", "some"), 2), (("some", "some", "some"), 3)):
            self.assertEqual(how_many_lead((tuple(zip(words, "pqr")), ("has", "p", "x"))), told)

    def test_how_many_nodes(self):
        for many, words, backs in itertools.product(range(1, 9), SHAPES, range(5)):
            body = ("has", "p", "x")
            for _ in range(backs):
                body = ("ever", body)
            saying = (tuple(zip(words, "pqr")), body)
            told = many ** leads(saying) * 2 ** (many ** (len(words) - leads(saying)) * 2 ** backs)
            self.assertEqual(many_nodes(ring_table(many), saying), told)
            self.assertEqual(many_by_hand(ring_table(many), saying), told)


class BesideTest(unittest.TestCase):

    def test_by_the_words(self):
        saying = ((("all", "p"), ("some", "q")), ("alike", "p", "q", ("x",)))
        beside = Beside(sample_table(), saying)
        self.assertEqual((beside.leading, beside.others, len(beside.rows)), (1, 1, 1))
        self.assertEqual(beside.firsts(("b",)), [(("a",), (False,)), (("c",), (False,))])
        self.assertEqual(beside.behind((("a",), (True,)), ("b",)), [(("a",), (False,)), (("b",), (True,))])
        self.assertEqual(beside.first_nodes(), [(("a",), ((("a",), (True,)), (("c",), (True,)))),
                                                (("c",), ((("a",), (True,)), (("c",), (True,))))])
        self.assertEqual(beside.nodes_behind((("b",), ((("a",), (True,)), (("b",), (False,))))),
                         [(("a",), ((("a",), (True,)), (("b",), (False,)), (("c",), (True,)))),
                          (("c",), ((("a",), (True,)), (("b",), (False,)), (("c",), (True,))))])

    def test_none_beside(self):
        saying = ((("some", "p"), ("some", "q")), ("alike", "p", "q", ("x",)))
        beside = Beside(sample_table(), saying)
        self.assertEqual((beside.leading, beside.others), (2, 0))
        self.assertEqual(beside.firsts(("a", "b")), [((), (False,))])
        self.assertEqual(beside.nodes_behind((("c", "b"), (((), (False,)),))),
                         [(("c", "a"), (((), (True,)),)), (("c", "c"), (((), (True,)),))])

    def test_each_side_and_node_by_the_words(self):
        chance = random.Random(31)
        for _ in range(150):
            table = random_table(chance, 4, 2)
            saying = random_saying(chance, chance.choice(SHAPES), 3)
            beside = Beside(table, saying)
            nodes = beside.first_nodes()
            begins = list(itertools.product(table.begins, repeat=leads(saying)))
            self.assertEqual(nodes, [(states, tuple(sorted(firsts_by_words(table, saying, states))))
                                     for states in begins])
            for node in nodes[:2]:
                for states, few in [node] + beside.nodes_behind(node)[:2]:
                    told = [(more, tuple(sorted(behind_by_words(table, saying, few, more))))
                            for more in moved(table, states)]
                    self.assertEqual(beside.nodes_behind((states, few)), told)
                    for more in moved(table, states):
                        for side in few:
                            self.assertEqual(beside.behind(side, more),
                                             sorted(behind_by_words(table, saying, [side], more)))


if __name__ == "__main__":
    unittest.main()
