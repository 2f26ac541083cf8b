"""What is true at each step: [7], and [2] and [3] as far as they speak of it."""

import random
import unittest

from manyruns.bodies import is_saying, parts_of
from manyruns.tables import Table
from manyruns.values import keeps, part_rows, truths_at, truths_of, values_of
from manyruns.walks import shown_of, walks_of
from tests.helpers import (deep_copy, full_table, kinds, random_body, random_heads, random_table, sample_table,
                           true_at, walks_by_runs)

P = ("has", "p", "x")
Q = ("has", "q", "y")
ONE = (("all", "p"),)
TWO = (("all", "p"), ("some", "q"))
# What a run shows at a step.
X, Y, XY, NONE = ("x",), ("y",), ("x", "y"), ()


class ValuesOfTest(unittest.TestCase):

    def check(self, body, shown, ahead, told, heads=TWO):
        self.assertTrue(is_saying((heads, body)))
        values = values_of((heads, body), shown, ahead=ahead)
        self.assertEqual(values, told)
        self.assertEqual(kinds(values), (tuple, [bool] * len(told)))
        self.assertEqual(values_of(ahead=ahead, shown=shown, saying=(heads, body)), told)
        if ahead is None:
            self.assertEqual(values_of((heads, body), shown), told)

    def test_has(self):
        for shown, told in ((X, True), (XY, True), (Y, False), (NONE, False), (("w", "x", "y", "z"), True)):
            for ahead in (None, (True,), (False,)):
                self.check(P, (shown,), ahead, (told,), ONE)
                self.check(P, (shown, Y), ahead, (told,))
                self.check(P, (Y, shown), ahead, (told,), (("all", "q"), ("all", "p")))

    def test_alike(self):
        rows = ((X, X, True), (X, Y, False), (X, XY, False), (XY, XY, True), (NONE, NONE, True), (NONE, ("z",), True),
                (X, ("x", "z"), True), (NONE, Y, False), (Y, ("a", "y"), True))
        for one, other, told in rows:
            for ahead in (None, (True,), (False,)):
                for body in (("alike", "p", "q", ("x", "y")), ("alike", "q", "p", ("x", "y"))):
                    self.check(body, (one, other), ahead, (told,))
                    self.check(body, (other, one), ahead, (told,))
        self.check(("alike", "p", "q", ("y",)), (X, NONE), None, (True,))
        heads = (("all", "r"), ("all", "q"), ("all", "p"))
        self.check(("alike", "p", "r", ("x",)), (X, Y, X), None, (True,), heads)
        self.check(("alike", "p", "q", ("x",)), (X, Y, X), None, (False,), heads)

    def test_not_and_or(self):
        for one, shown in ((True, X), (False, Y)):
            for ahead in (None, (True, True), (False, False)):
                self.check(("not", P), (shown,), ahead, (one, not one), ONE)
            for other, beside in ((True, Y), (False, X)):
                for ahead in (None, (True,) * 3, (False,) * 3):
                    self.check(("and", P, Q), (shown, beside), ahead, (one, other, one and other))
                    self.check(("or", P, Q), (shown, beside), ahead, (one, other, one or other))

    def test_ahead(self):
        for one, shown in ((True, X), (False, NONE)):
            self.check(("ahead", P), (shown,), None, (one, False), ONE)
            for was in (True, False):
                for itself in (True, False):
                    self.check(("ahead", P), (shown,), (was, itself), (one, was), ONE)

    def test_ever(self):
        for one, shown in ((True, X), (False, NONE)):
            self.check(("ever", P), (shown,), None, (one, one), ONE)
            for was in (True, False):
                for itself in (True, False):
                    self.check(("ever", P), (shown,), (was, itself), (one, one or itself), ONE)

    def test_since(self):
        for one, shown in ((True, X), (False, Y)):
            for other, beside in ((True, Y), (False, X)):
                self.check(("since", P, Q), (shown, beside), None, (one, other, other))
                for number in range(8):
                    ahead = (number > 3, number % 4 > 1, number % 2 == 1)
                    self.check(("since", P, Q), (shown, beside), ahead, (one, other, other or (one and ahead[2])))

    def test_each_part_of_one_that_stands_twice(self):
        body = ("and", ("ever", P), ("not", ("ever", P)))
        self.check(body, (X,), None, (True, True, True, True, False, False), ONE)
        self.check(body, (NONE,), (False, True, False, False, True, True), (False, True, False, False, True, True), ONE)

    def test_looking_back_nested(self):
        body = ("ahead", ("ahead", P))
        self.check(body, (X,), None, (True, False, False), ONE)
        self.check(body, (NONE,), (True, False, False), (False, True, False), ONE)
        self.check(body, (NONE,), (False, True, False), (False, False, True), ONE)

    def test_what_was_told_may_be_handed_in_and_is_told_again(self):
        saying = (ONE, ("since", ("not", P), ("ever", P)))
        first = values_of(saying, (X,))
        second = values_of(saying, (NONE,), ahead=first)
        self.assertEqual((first, second), ((True, False, True, True, True), (False, True, False, True, True)))
        self.assertEqual(values_of(saying, (X,)), first)
        self.assertEqual(values_of(saying, (NONE,), ahead=first), second)

    def test_twelve_parts_and_four_that_look_back(self):
        body = ("or", ("since", ("ahead", P), ("ever", Q)), ("and", ("not", P), ("ahead", ("not", Q))))
        self.assertEqual(len(parts_of(body)), 12)
        table = Table(("a", "b"), (("a", "a"), ("b", "b")), begins=("a", "b"), shows=(("a", X), ("b", Y)))
        told = tuple(true_at(table, (TWO, body), [("a", "b")], part, 0) for part in parts_of(body))
        self.check(body, (X, Y), None, told)


class WalkTest(unittest.TestCase):

    def check(self, table, saying, walk):
        """All that is told of the walk, step by step, straight by the words."""
        ahead = None
        for step, shown in enumerate(shown_of(table, walk)):
            told = tuple(true_at(table, saying, walk, part, step) for part in parts_of(saying[1]))
            self.assertEqual(values_of(saying, shown, ahead=ahead), told)
            ahead = told
        truths = [true_at(table, saying, walk, saying[1], step) for step in range(len(walk))]
        for thing in (walk, tuple(walk)):
            self.assertEqual(truths_of(table, saying, thing), truths)
            self.assertIs(keeps(table, saying, thing), all(truths))
        # Of each beginning of the walk.
        for steps in range(1, len(walk)):
            self.assertEqual(truths_of(table, saying, walk[:steps]), truths[:steps])
            self.assertIs(keeps(table, saying, walk[:steps]), all(truths[:steps]))

    def test_random_sayings_of_all_walks(self):
        chance = random.Random(8)
        for _ in range(150):
            table = random_table(chance)
            many = chance.randint(1, 3)
            words = chance.choice((("all",) * 3, ("all", "some", "some"), ("some", "all", "all")))
            heads = random_heads(chance, words, many)
            saying = (heads, random_body(chance, [run for _, run in heads], 4))
            for walk in walks_by_runs(table, many, chance.randint(1, 5))[:20]:
                self.check(table, saying, walk)

    def test_forty_steps(self):
        table = full_table(2, shows=(("a", X),))
        for body in (("since", ("not", P), ("ahead", P)), ("ever", ("ahead", ("ahead", P))), ("not", ("ever", P))):
            self.check(table, (ONE, body), [("b",)] * 20 + [("a",)] + [("b",)] * 19)

    def test_each_kind_by_the_words(self):
        table = sample_table()
        walk = [("a", "c"), ("b", "c"), ("a", "c"), ("b", "c"), ("c", "c")]
        rows = (
            (P, [True, False, True, False, True]),
            (("has", "q", "z"), [False] * 5),
            (("alike", "p", "q", ("x",)), [True, False, True, False, True]),
            (("alike", "p", "q", ("y",)), [False, False, False, False, True]),
            (("not", P), [False, True, False, True, False]),
            (("ahead", P), [False, True, False, True, False]),
            (("ever", ("has", "p", "y")), [False, False, False, False, True]),
            (("ever", ("not", P)), [False, True, True, True, True]),
            (("since", P, ("has", "p", "y")), [False, False, False, False, True]),
            (("since", ("has", "q", "y"), P), [True, True, True, True, True]),
            (("since", ("not", ("has", "p", "y")), ("not", P)), [False, True, True, True, False]),
        )
        for body, told in rows:
            truths = truths_of(table, (TWO, body), walk)
            self.assertEqual(truths, told)
            self.assertEqual(kinds(truths), (list, [bool] * 5))
            self.assertIs(keeps(table, (TWO, body), walk), all(told))
            self.assertEqual(truths_of(walk=walk, saying=(TWO, body), table=table), told)
            self.assertIs(keeps(walk=walk, saying=(TWO, body), table=table), all(told))

    def test_false_at_the_last_step_alone_or_at_the_first(self):
        table = full_table(2, shows=(("a", X),))
        for steps in range(1, 41):
            self.assertIs(keeps(table, (ONE, P), [("a",)] * steps), True)
            self.assertIs(keeps(table, (ONE, P), [("a",)] * (steps - 1) + [("b",)]), False)
            self.assertIs(keeps(table, (ONE, P), [("b",)] + [("a",)] * (steps - 1)), False)

    def test_heads_of_other_words_are_walked_alike(self):
        table = full_table(2, shows=(("a", X),))
        body = ("since", P, ("alike", "p", "q", ("x",)))
        for walk in walks_of(table, 2, 3):
            told = [truths_of(table, (((one, "p"), (other, "q")), body), walk)
                    for one in ("all", "some") for other in ("all", "some")]
            self.assertEqual(told, [told[0]] * 4)

    def test_changes_nothing_and_is_the_askers_own(self):
        table, walk, saying = sample_table(), [("a",), ("b",)], (ONE, ("ever", P))
        told = truths_of(table, saying, walk)
        told[0] = None
        told.append(None)
        self.assertEqual(truths_of(table, saying, walk), [True, True])
        self.assertIs(keeps(table, saying, walk), True)
        self.assertEqual((table, walk, saying), (sample_table(), [("a",), ("b",)], deep_copy(saying)))


class RowsTest(unittest.TestCase):

    def test_rows_by_numbers(self):
        body = ("since", ("not", Q), ("alike", "q", "p", ("x", "y")))
        rows = part_rows((TWO, body))
        self.assertEqual(rows, [("has", 1, 1, ("y",)), ("not", 0, 0, ()), ("alike", 1, 0, ("x", "y")),
                                ("since", 1, 2, ())])
        self.assertEqual(truths_at(rows, (X, Y), None), (True, False, False, False))
        self.assertEqual(truths_at(rows, (X, X), (True, False, False, True)), (False, True, True, True))


if __name__ == "__main__":
    unittest.main()
