"""Mends: [15], [1] (f), and [2] and [3] as far as they speak of them."""

import itertools
import random
import unittest

from manyruns.bodies import looks_back
from manyruns.errors import BadKind, LastMove, TooGreat
from manyruns.mends import least_mend, no_mend, shows_no_mend
from manyruns.rules import MENDS, SMALL
from manyruns.sides import least_break
from manyruns.tables import Table
from manyruns.walks import is_walk, walks_of
from tests.handanswers import kept, random_saying
from tests.helpers import (ODD_THINGS, as_list, backs_of, changed, deep_copy, full_table, kinds, random_table,
                           ring_table, sample_table, walks_by_runs)

ONE = (("all", "p"),)
TWO = (("all", "p"), ("all", "q"))
P = ("has", "p", "x")
ALIKE = ("alike", "p", "q", ("x",))
ASKS = (least_mend, lambda table, saying: least_mend(table, saying, most=0),
        lambda table, saying: no_mend(table, saying, many=0), lambda table, saying: no_mend(table, saying, many=2),
        lambda table, saying: shows_no_mend(table, saying, 0, None),
        lambda table, saying: shows_no_mend(table, saying, 2, ([], [])))


def cases(seed, many, states=4, moves=3):
    """Tables of at most twelve moves, sayings of all runs that are small enough."""
    chance, found = random.Random(seed), 0
    while found < many:
        table = random_table(chance, states, moves)
        saying = random_saying(chance, ("all",) * chance.choice((1, 1, 2, 3)), chance.randint(1, 3))
        if len(table.moves) <= 12 and len(table.states) ** len(saying[0]) * 2 ** backs_of(saying[1]) <= SMALL:
            found += 1
            yield table, saying


def lessened(table, moves):
    """The table without these moves, by its fields; None where it can't be."""
    kept_on = tuple(move for move in table.moves if move not in moves)
    if {one for one, _ in kept_on} != set(table.states):
        return None
    return Table(table.states, kept_on, begins=table.begins, shows=table.shows)


def mend_by_hand(table, saying, most):
    """The first set of the fewest moves, tried one by one; None."""
    for many in range(most + 1):
        for moves in sorted(itertools.combinations(table.moves, many)):
            less = lessened(table, moves)
            if less is not None and least_break(less, saying) is None:
                return moves
    return None


def moves_in(walk):
    return {move for one, other in zip(walk, walk[1:]) for move in zip(one, other)}


def is_paper_by_words(table, saying, many, thing):
    """Whether it's a paper that so many moves don't mend the table, straight by the words."""
    if type(thing) is not tuple or len(thing) != 2 or type(thing[1]) is not list:
        return False
    walk, papers = thing
    if not is_walk(table, len(saying[0]), walk) or kept(table, saying, walk):
        return False
    tables = [lessened(table, [move]) for move in sorted(moves_in(walk))] if many else []
    tables = [less for less in tables if less is not None]
    return (len(papers) == len(tables)
            and all(is_paper_by_words(less, saying, many - 1, paper) for less, paper in zip(tables, papers)))


class LeastMendTest(unittest.TestCase):

    def check(self, table, saying, most, told):
        mend = least_mend(table, saying, most=most)
        self.assertEqual((mend, kinds(mend)), (told, kinds(told)))
        self.assertEqual(least_mend(most=most, saying=saying, table=table), told)
        if most == MENDS:
            self.assertEqual(least_mend(table, saying), told)

    def test_by_the_words(self):
        table = sample_table()
        for most, told in ((0, None), (1, (("a", "b"),)), (2, (("a", "b"),))):
            self.check(table, (ONE, P), most, told)
        for most in (0, 1, 2):
            self.check(table, (ONE, ("or", P, ("not", P))), most, ())
            self.check(table, (ONE, ("not", P)), most, None)
        # c keeps to itself, so two runs can be unlike only if a goes on to b.
        self.check(table, (TWO, ALIKE), 2, (("a", "b"),))

    def test_two_moves(self):
        table = Table(("a", "b", "c", "d"), (("a", "a"), ("a", "b"), ("a", "c"), ("b", "d"), ("c", "d"), ("d", "d")),
                      begins=("a",), shows=(("d", ("x",)),))
        for most, told in ((0, None), (1, None), (2, (("a", "b"), ("a", "c")))):
            self.check(table, (ONE, ("not", P)), most, told)

    def test_three_moves_are_too_many(self):
        table = full_table(4, shows=(("b", ("x",)), ("c", ("x",)), ("d", ("x",))), begins=("a",))
        self.check(table, (ONE, ("not", P)), 2, None)

    def test_the_first_of_as_many(self):
        # Without either of two moves it holds; without the last move of a the table can't be.
        table = Table(("a", "b", "c"), (("a", "b"), ("b", "b"), ("b", "c"), ("c", "a"), ("c", "c")), begins=("a",),
                      shows=(("b", ("y",)), ("c", ("x",))))
        saying = (ONE, ("not", ("and", ("has", "p", "y"), ("ahead", ("ever", P)))))
        self.check(table, saying, 2, (("b", "c"),))
        table = Table(("a", "b", "c"), (("a", "b"), ("b", "a"), ("b", "b"), ("b", "c"), ("c", "b"), ("c", "c")),
                      begins=("a",), shows=(("c", ("x",)),))
        body = ("not", ("and", ("has", "p", "x"), ("ahead", ("has", "p", "x"))))
        self.check(table, (ONE, body), 2, (("b", "c"),))
        self.check(table, (ONE, ("or", body, ("not", P))), 2, (("b", "c"),))

    def test_beside_all_sets_tried_one_by_one(self):
        told = []
        for table, saying in cases(121, 250):
            for most in (0, 1, 2):
                told.append(mend_by_hand(table, saying, most))
                self.check(table, saying, most, told[-1])
        for mend in ((), None):
            self.assertGreater(told.count(mend), 50)
        self.assertGreater(len([mend for mend in told if mend and len(mend) == 1]), 30)
        self.assertGreater(len([mend for mend in told if mend and len(mend) == 2]), 3)

    def test_the_walks_of_a_mended_table_are_those_without_the_moves(self):
        mended = 0
        for table, saying in cases(122, 150):
            mend = least_mend(table, saying)
            if mend:
                mended += 1
                less = table.without(mend)
                for steps in (1, 2, 3):
                    walks = walks_by_runs(table, len(saying[0]), steps)
                    if len(walks) <= 500:
                        told = [walk for walk in walks if not moves_in(walk) & set(mend)]
                        self.assertEqual(walks_of(less, len(saying[0]), steps), told)
                        self.assertTrue(all(kept(less, saying, walk) for walk in told[:50]))
        self.assertGreater(mended, 10)

    def test_twelve_moves(self):
        table = full_table(4, shows=(("d", ("x",)),), begins=("a",))
        table = table.without([("a", "b"), ("b", "c"), ("c", "a"), ("d", "d")])
        self.assertEqual(len(table), 12)
        self.check(table, (ONE, ("not", ("and", P, ("ahead", ("not", P))))), 2, mend_by_hand(
            table, (ONE, ("not", ("and", P, ("ahead", ("not", P))))), 2))

    def test_nothing_is_changed(self):
        table = sample_table()
        least_mend(table, (ONE, P))
        self.assertEqual(table, sample_table())


class NoMendTest(unittest.TestCase):

    def test_by_the_words(self):
        table = ring_table(2, shows=(("b", ("x",)),))
        walk = [("a",), ("b",)]
        for many in (0, 1, 2):
            self.assertEqual(no_mend(table, (ONE, ("not", P)), many=many), (walk, []))
        self.assertEqual(no_mend(sample_table(), (ONE, P), many=0), ([("a",), ("b",)], []))
        self.assertIs(no_mend(sample_table(), (ONE, P), many=1), None)
        self.assertIs(no_mend(sample_table(), (ONE, ("not", ("has", "p", "z"))), many=0), None)

    def test_none_just_where_there_is_a_mend(self):
        papers = {0: 0, 1: 0, 2: 0}
        for table, saying in cases(123, 200):
            for many in (0, 1, 2):
                paper = no_mend(table, saying, many=many)
                self.assertIs(paper is None, mend_by_hand(table, saying, many) is not None)
                self.assertEqual(no_mend(many=many, saying=saying, table=table), paper)
                if paper is not None:
                    papers[many] += 1
                    self.assertTrue(is_paper_by_words(table, saying, many, paper))
                    self.assertIs(shows_no_mend(table, saying, many, paper), True)
        self.assertTrue(all(number > 30 for number in papers.values()), papers)

    def test_the_askers_own(self):
        table, saying = full_table(3, shows=(("b", ("x",)), ("c", ("x",)))), (ONE, ("not", P))
        told = no_mend(table, saying, many=2)
        copy = deep_copy(told)
        told[0].clear()
        told[1].append(None)
        self.assertEqual(no_mend(table, saying, many=2), copy)
        self.assertEqual(table, full_table(3, shows=(("b", ("x",)), ("c", ("x",)))))


class ShowsNoMendTest(unittest.TestCase):

    def check(self, told, table, saying, many, thing):
        copy = deep_copy(thing)
        self.assertIs(shows_no_mend(table, saying, many, thing), told, thing)
        self.assertIs(shows_no_mend(thing=thing, many=many, saying=saying, table=table), told)
        self.assertEqual((thing, kinds(thing)), (copy, kinds(copy)))

    def by_words(self, table, saying, many, thing):
        told = is_paper_by_words(table, saying, many, thing)
        self.check(told, table, saying, many, thing)
        return told

    def papers(self, seed, many):
        for table, saying in cases(seed, many):
            for most in (0, 1, 2):
                paper = no_mend(table, saying, many=most)
                if paper is not None:
                    yield table, saying, most, paper

    def test_told_papers_for_each_number(self):
        told = []
        for table, saying, most, paper in self.papers(124, 100):
            self.check(True, table, saying, most, paper)
            self.check(False, table, saying, most, list(paper))
            self.check(False, table, saying, most, (paper[0], tuple(paper[1])))
            for many in (0, 1, 2):
                told.append(self.by_words(table, saying, many, paper))
        self.assertGreater(told.count(False), 20)

    def test_other_walks(self):
        told = []
        for table, saying in cases(125, 150):
            for steps in (1, 2, 3):
                for walk in walks_by_runs(table, len(saying[0]), steps)[:8]:
                    told.append(self.by_words(table, saying, 0, (walk, [])))
                    tables = [lessened(table, [move]) for move in sorted(moves_in(walk))]
                    papers = [(least_break(less, saying) or [], []) for less in tables if less is not None]
                    told.append(self.by_words(table, saying, 1, (walk, papers)))
                    self.by_words(table, saying, 1, (walk, papers[::-1]))
                    self.by_words(table, saying, 1, (walk, papers + papers[:1]))
                    self.by_words(table, saying, 1, (walk, papers[1:]))
        self.assertGreater(told.count(True), 300)
        self.assertGreater(told.count(False), 300)

    def test_walks_of_two_runs_have_moves_of_both(self):
        table = Table(("a", "b", "c"), (("a", "a"), ("a", "b"), ("a", "c"), ("b", "b"), ("c", "c")), begins=("a",),
                      shows=(("b", ("x",)),))
        walk = [("a", "a"), ("b", "c")]
        papers = [([("a", "a"), ("a", "b")], []), ([("a", "a"), ("a", "b")], [])]
        self.check(False, table, (TWO, ALIKE), 1, (walk, papers))
        without_ab = table.without([("a", "b")])
        self.assertIs(least_break(without_ab, (TWO, ALIKE)), None)
        saying = (TWO, ("alike", "p", "q", ("x", "y")))
        table = Table(table.states, table.moves, begins=("a",), shows=(("b", ("x",)), ("c", ("y",))))
        papers = [([("a", "a"), ("a", "c")], []), ([("a", "a"), ("a", "b")], [])]
        self.check(True, table, saying, 1, (walk, papers))
        self.check(False, table, saying, 1, (walk, papers[::-1]))
        self.check(False, table, saying, 1, (walk, papers[:1]))

    def test_spoilt_at_any_depth(self):
        chance = random.Random(126)
        deep = 0
        for table, saying, most, paper in self.papers(126, 60):
            deep += len(paper[1]) > 0 and len(paper[1][0][1]) > 0
            for odd in (None, [], (), "a", 0, [()], ([], []), paper, paper[1], [paper], (paper[0],), ("z",)):
                swapped = changed(paper, lambda one, odd=odd: odd)
                for thing in chance.sample(swapped, min(8, len(swapped))):
                    self.by_words(table, saying, most, thing)
            swapped = changed(paper, lambda one: one[1:] if isinstance(one, (list, tuple)) else "z")
            swapped += changed(paper, lambda one: one + one[-1:] if isinstance(one, (list, tuple)) else "b")
            for thing in chance.sample(swapped, min(30, len(swapped))):
                self.by_words(table, saying, most, thing)
            self.check(False, table, saying, most, as_list(paper))
        self.assertGreater(deep, 2)

    def test_things_of_any_kind(self):
        for table, saying, most, paper in self.papers(127, 10):
            for odd in ODD_THINGS + (True, False):
                self.check(False, table, saying, most, odd)
                self.check(False, table, saying, most, (odd, paper[1]))
                if odd != []:
                    self.check(False, table, saying, most, (paper[0], odd))
                    self.check(False, table, saying, most, (paper[0], paper[1] + [odd]))

    def test_none_where_there_is_a_mend(self):
        # However the walks of the paper are chosen.
        for table, saying in cases(128, 150):
            if mend_by_hand(table, saying, 1) is not None:
                for walk in walks_by_runs(table, len(saying[0]), 3)[:10]:
                    tables = [lessened(table, [move]) for move in sorted(moves_in(walk))]
                    papers = [(least_break(less, saying) or walk, []) for less in tables if less is not None]
                    self.check(False, table, saying, 1, (walk, papers))


class RefusedTest(unittest.TestCase):

    def check_refused(self, made, field, told, table, saying):
        for number, ask in enumerate(ASKS):
            with self.subTest(number=number, saying=saying):
                with self.assertRaises(made.__bases__[0]) as caught:
                    ask(table, saying)
                self.assertIs(type(caught.exception), made)
                self.assertEqual(getattr(caught.exception, field), told)

    def test_sayings_of_other_kinds(self):
        for words, told in ((("some",), "some"), (("some",) * 3, "some"), (("all", "some"), "answer"),
                            (("some", "all"), "ever"), (("all", "all", "some"), "answer")):
            heads = tuple(zip(words, "pqr"))
            self.check_refused(BadKind, "kind", told, sample_table(), (heads, P))
            deep = ("ahead", ("ahead", ("ahead", ("ahead", P))))
            self.check_refused(BadKind, "kind", told, ring_table(8), (heads, deep))

    def test_too_great(self):
        at = 0
        for many, heads, backs in itertools.product(range(1, 9), (1, 2, 3), range(5)):
            body = P
            for _ in range(backs):
                body = ("ever", body)
            self.assertEqual(looks_back(body), backs)
            table, saying = ring_table(many, shows=(("a", ("x",)),)), (tuple(zip(("all",) * heads, "pqr")), body)
            told = many ** heads * 2 ** backs
            at += told == 64
            if told > 64:
                self.check_refused(TooGreat, "many", told, table, saying)
            else:
                for ask in ASKS:
                    ask(table, saying)
        self.assertGreater(at, 3)

    def test_most_and_many_by_name_alone(self):
        for ask in (least_mend, no_mend):
            with self.assertRaises(TypeError):
                ask(sample_table(), (ONE, P), 1)
        with self.assertRaises(TypeError):
            no_mend(sample_table(), (ONE, P))

    def test_a_table_that_can_not_be_is_no_mend(self):
        table = ring_table(2, shows=(("b", ("x",)),))
        with self.assertRaises(LastMove):
            table.without([("a", "b")])
        self.assertIs(least_mend(table, (ONE, ("not", P))), None)


if __name__ == "__main__":
    unittest.main()
