"""Going through a table step by step, for [10] to [13]."""

import itertools
import unittest

from manyruns.stepping import Keeping, Stepping, all_come, is_side, is_true, least_walk, many_sides
from tests.helpers import ring_table, sample_table

TWO = (("all", "p"), ("all", "q"))
P = ("has", "p", "x")
ALIKE = ("alike", "p", "q", ("x",))


class SteppingTest(unittest.TestCase):

    def test_sides_of_a_first_step_and_behind(self):
        table, saying = sample_table(), (TWO, ("ahead", ALIKE))
        stepping = Stepping(table, saying)
        self.assertEqual((stepping.heads, len(stepping.rows)), (2, 2))
        self.assertEqual(stepping.firsts(), [(states, (True, False)) for states in itertools.product("ac", repeat=2)])
        self.assertEqual(stepping.behind((("b", "c"), (False, True))),
                         [(("a", "c"), (True, False)), (("c", "c"), (True, False))])
        self.assertEqual(stepping.behind((("b", "c"), (True, False))),
                         [(("a", "c"), (True, True)), (("c", "c"), (True, True))])

    def test_an_end_is_where_the_body_is_false(self):
        stepping = Stepping(sample_table(), (TWO, ALIKE))
        for side, told in (((("a", "a"), (True,)), True), ((("a", "a"), (False, False)), False),
                           ((("a", "a"), (False, True)), True), ((("a", "a"), (True, False)), False)):
            self.assertIs(is_true(side), told)
            self.assertIs(stepping.is_end(side), not told)


class KeepingTest(unittest.TestCase):

    def test_sides_where_the_body_is_true_alone(self):
        keeping = Keeping(sample_table(), (TWO, ALIKE))
        self.assertEqual(keeping.firsts(), [(states, (True,)) for states in itertools.product("ac", repeat=2)])
        self.assertEqual(keeping.behind((("a", "a"), (True,))), [(("a", "a"), (True,)), (("b", "b"), (True,))])
        self.assertEqual(Keeping(sample_table(), (TWO, ("has", "p", "y"))).firsts(),
                         [(("c", "a"), (True,)), (("c", "c"), (True,))])


class LeastWalkTest(unittest.TestCase):

    def test_walks_and_what_is_come_to(self):
        table = ring_table(3, shows=(("c", ("x",)),))
        stepping = Stepping(table, ((("all", "p"),), ("not", P)))
        self.assertEqual(least_walk(stepping), [("a",), ("b",), ("c",)])
        self.assertEqual(all_come(stepping), [(("a",), (False, True)), (("b",), (False, True)),
                                              (("c",), (True, False))])
        keeping = Keeping(table, ((("all", "p"),), ("not", P)))
        self.assertEqual(all_come(keeping), [(("a",), (False, True)), (("b",), (False, True))])
        self.assertIs(least_walk(Stepping(table, ((("all", "p"),), ("or", P, ("not", P))))), None)

    def test_each_is_come_to_once(self):
        table = sample_table()
        come = all_come(Stepping(table, (TWO, ("ever", ALIKE))))
        self.assertEqual(len(come), len(set(come)))


class ManySidesTest(unittest.TestCase):

    def test_how_many(self):
        for many, heads, backs, more in itertools.product(range(1, 9), (1, 2, 3), range(5), range(3)):
            body = P
            for _ in range(backs):
                body = ("ahead", body)
            saying = (tuple(zip(("all",) * heads, "pqr")), body)
            told = many ** (heads + more) * 2 ** backs
            self.assertEqual(many_sides(ring_table(many), saying, more), told)
            if not more:
                self.assertEqual(many_sides(ring_table(many), saying), told)


class IsSideTest(unittest.TestCase):

    def test_pairs_of_states_and_truths(self):
        table = sample_table()
        for thing in ((("a", "b"), (True, True)), (("c", "c"), (False, True))):
            self.assertIs(is_side(table, 2, 2, thing), True)
            self.assertIs(is_side(table, 1, 2, thing), False)
            self.assertIs(is_side(table, 2, 3, thing), False)
        self.assertIs(is_side(table, 0, 1, ((), (True,))), True)
        for thing in ((("a", "b"), (True, False)), (("a", "d"), (True, True)), (("a", "b"), (1, True)), (("a", "b"),),
                      [("a", "b"), (True, True)], (["a", "b"], (True, True)), (("a", "b"), [True, True]), None, "ab"):
            self.assertIs(is_side(table, 2, 2, thing), False)


if __name__ == "__main__":
    unittest.main()
