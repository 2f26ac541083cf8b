"""Runs for ever: [13], [1] (d), and [2] and [3] as far as they speak of them."""

import itertools
import random
import unittest

from manyruns.bodies import parts_of
from manyruns.errors import BadKind, TooGreat
from manyruns.evers import least_none, ring_of, shows_none, shows_ring, stands
from manyruns.tables import Table
from tests.handanswers import (behind_by_words, beside, firsts_by_words, is_side_by_words, leading_walks, leads,
                               many_by_hand, moved, random_cases, stands_by_hand)
from tests.helpers import (ODD_THINGS, as_list, backs_of, changed, deep_copy, full_table, kinds, ring_table,
                           sample_table)

SHAPES = (("some",), ("some", "some"), ("some", "all"), ("some", "all"), ("some", "all", "all"), ("some", "some", "all"))
S = (("some", "p"),)
SA = (("some", "p"), ("all", "q"))
P = ("has", "p", "x")
Q = ("has", "q", "x")
ALIKE = ("alike", "p", "q", ("x",))
ASKS = (lambda table, saying: stands(table, saying, [("a",) * leads(saying)]), least_none, ring_of,
        lambda table, saying: shows_ring(table, saying, ([], [])), lambda table, saying: shows_none(table, saying, []))
HOW_FAR = {1: 5, 2: 4}


def cases(seed, many):
    yield from random_cases(random.Random(seed), many, SHAPES, 1024)


def nodes_by_words(table, saying, node=None):
    """All pairs (states, few) of a first step, or behind this one, where the body is true in each of few."""
    tuples = itertools.product(table.begins, repeat=leads(saying)) if node is None else moved(table, node[0])
    found = []
    for states in tuples:
        few = firsts_by_words(table, saying, states) if node is None else behind_by_words(table, saying, node[1], states)
        if all(values[-1] for _, values in few):
            found.append((states, tuple(sorted(few))))
    return found


def all_nodes(table, saying):
    """Each node come to, with those behind it."""
    behind, waiting = {}, nodes_by_words(table, saying)
    while waiting:
        node = waiting.pop()
        if node not in behind:
            behind[node] = nodes_by_words(table, saying, node)
            waiting += behind[node]
    return behind


def paper_by_hand(table, saying):
    """A paper that no walk stands for ever, ranks by the longest walk behind; None where there's a ring of nodes."""
    behind, ranks = all_nodes(table, saying), {}

    def rank(node, come):
        if node in come:
            return None
        if node not in ranks:
            lower = [rank(other, come + (node,)) for other in behind[node]]
            ranks[node] = None if None in lower else max([-1] + lower) + 1
        return ranks[node]

    paper = [(*node, rank(node, ())) for node in sorted(behind)]
    return None if any(row[2] is None for row in paper) else paper


def is_paper_by_words(table, saying, thing):
    """Whether it's a paper that no walk stands for ever, straight by the words."""
    def is_row(row):
        if type(row) is not tuple or [type(one) for one in row] != [tuple, tuple, int] or row[2] < 0:
            return False
        return (len(row[0]) == leads(saying) and all(type(one) is str and one in table.states for one in row[0])
                and len(row[1]) > 0 and all(is_side_by_words(table, saying, side, beside(saying)) for side in row[1])
                and list(row[1]) == sorted(set(row[1])))

    if type(thing) is not list or not all(is_row(row) for row in thing):
        return False
    ranks = {row[:2]: row[2] for row in thing}
    return (len(ranks) == len(thing) and all(node in ranks for node in nodes_by_words(table, saying))
            and all(other in ranks and ranks[other] < ranks[node]
                    for node in ranks for other in nodes_by_words(table, saying, node)))


def is_ring_by_hand(table, saying, thing, most):
    """Whether all walks of so many steps at most of this pair of lists of steps are walks that stand."""
    walk = (thing[0] + thing[1] * most)[:most]
    if walk[0] not in itertools.product(table.begins, repeat=leads(saying)):
        return False
    if not all(move in table.moves for one, other in zip(walk, walk[1:]) for move in zip(one, other)):
        return False
    return all(stands_by_hand(table, saying, walk[:steps]) for steps in range(1, most + 1))


class StandsTest(unittest.TestCase):

    def check(self, told, table, saying, walk):
        copy = deep_copy(walk)
        self.assertIs(stands(table, saying, walk), told, walk)
        self.assertIs(stands(walk=tuple(walk), saying=saying, table=table), told)
        self.assertEqual((walk, kinds(walk)), (copy, kinds(copy)))

    def test_by_the_words(self):
        table = sample_table()
        self.check(True, table, (S, P), [("a",), ("a",)])
        self.check(False, table, (S, P), [("a",), ("b",)])
        self.check(False, table, (S, P), [("a",), ("b",), ("a",)])
        self.check(True, table, (SA, ("or", ALIKE, ("ahead", P))), [("a",), ("b",)])
        self.check(True, table, (SA, ALIKE), [("a",)])
        self.check(False, table, (SA, ALIKE), [("a",), ("a",)])
        self.check(False, table, (SA, ("not", ALIKE)), [("a",)])

    def test_beside_all_walks_of_the_others(self):
        told = []
        for table, saying in cases(81, 200):
            for steps in range(1, 4 if beside(saying) == 2 else 5):
                for walk in leading_walks(table, saying, steps)[:8]:
                    told.append(stands_by_hand(table, saying, walk))
                    self.check(told[-1], table, saying, walk)
        self.assertGreater(told.count(True), 500)
        self.assertGreater(told.count(False), 500)

    def test_forty_steps(self):
        table = full_table(3, shows=(("b", ("x",)),))
        walk = [("a",)] * 40
        self.check(True, table, (SA, ("or", ("not", P), Q)), walk)
        self.check(False, table, (SA, ("or", ("not", P), Q)), walk[:39] + [("b",)])
        self.check(True, table, (SA, ("or", ("not", P), Q)), walk[:39] + [("c",)])


class LeastNoneTest(unittest.TestCase):

    def check(self, table, saying, told):
        number = least_none(table, saying)
        self.assertEqual((number, type(number)), (told, type(told)))
        self.assertEqual(least_none(saying=saying, table=table), told)
        self.assertIs(ring_of(table, saying) is None, told is not None)

    def test_by_the_words(self):
        table = sample_table()
        self.check(table, (S, P), None)
        self.check(table, (S, ("not", P)), 1)
        self.check(table, (SA, ALIKE), 2)
        self.check(table, (SA, ("not", ALIKE)), 1)
        self.check(table, (S, ("not", ("ahead", P))), 2)
        self.check(table, (SA, ("or", P, Q)), None)
        self.check(table, ((("some", "p"), ("some", "q")), ("not", ALIKE)), 1)
        self.check(table, ((("some", "p"), ("some", "q")), ALIKE), None)

    def test_one_where_no_first_step_stands(self):
        for words in SHAPES:
            saying = (tuple(zip(words, "pqr")), ("has", "p", "z"))
            self.check(full_table(2), saying, 1)

    def test_far_on(self):
        for many in range(2, 9):
            table = ring_table(many, shows=(("abcdefgh"[many - 1], ("x",)),))
            self.check(table, (S, ("not", P)), many)
            self.check(table, (S, ("not", ("ahead", P))), many + 1)
            self.check(table, (S, ("not", ("and", P, ("ahead", ("ever", P))))), 2 * many)
            if many < 8:
                self.check(table, (SA, ("not", ("and", P, Q))), many)

    def test_beside_all_walks_of_each_length(self):
        found = []
        for table, saying in cases(82, 250):
            most = HOW_FAR[leads(saying)] - (beside(saying) == 2)
            told = None
            for steps in range(1, most + 1):
                if told is None and not any(stands_by_hand(table, saying, walk)
                                            for walk in leading_walks(table, saying, steps)):
                    told = steps
            number = least_none(table, saying)
            found.append(number)
            if told is None and number is not None:
                self.assertGreater(number, most)
            else:
                self.check(table, saying, told)
        self.assertGreater(found.count(None), 50)
        self.assertGreater(len([number for number in found if number and number > 1]), 30)

    def test_the_longest_of_several_ways(self):
        table = Table(("a", "b", "c", "d", "e"), (("a", "b"), ("a", "c"), ("b", "e"), ("c", "d"), ("d", "e"),
                                                  ("e", "e")), begins=("a", "d"), shows=(("e", ("x",)),))
        self.check(table, (S, ("not", P)), 4)


class RingOfTest(unittest.TestCase):

    def test_a_told_ring_stands_to_forty_steps(self):
        told = []
        for table, saying in cases(83, 200):
            ring = ring_of(table, saying)
            self.assertIs(ring is None, least_none(table, saying) is not None)
            if ring is not None:
                told.append(ring)
                self.assertEqual([type(ring)] + [type(one) for one in ring], [tuple, list, list])
                stem, loop = ring
                self.assertGreater(len(loop), 0)
                self.assertTrue(is_ring_by_hand(table, saying, ring, 4 if beside(saying) == 2 else 6))
                walk = (stem + loop * 40)[:40]
                for steps in range(1, 41):
                    self.assertIs(stands(table, saying, walk[:steps]), True)
                self.assertIs(shows_ring(table, saying, ring), True)
                self.assertEqual(ring_of(saying=saying, table=table), ring)
        self.assertGreater(len(told), 50)

    def test_by_the_words(self):
        self.assertEqual(ring_of(ring_table(1), (S, ("not", P))), ([], [("a",)]))
        self.assertEqual(ring_of(ring_table(3), (S, ("not", P))), ([], [("a",), ("b",), ("c",)]))
        table = Table(("a", "b", "c"), (("a", "b"), ("b", "c"), ("c", "b")), begins=("a",))
        self.assertEqual(ring_of(table, (S, ("not", P))), ([("a",)], [("b",), ("c",)]))
        self.assertIs(ring_of(table, (S, P)), None)

    def test_the_askers_own(self):
        told = ring_of(ring_table(3), (S, ("not", P)))
        told[0].append(None)
        told[1].clear()
        self.assertEqual(ring_of(ring_table(3), (S, ("not", P))), ([], [("a",), ("b",), ("c",)]))


class ShowsRingTest(unittest.TestCase):

    def check(self, told, table, saying, thing):
        copy = deep_copy(thing)
        self.assertIs(shows_ring(table, saying, thing), told, thing)
        self.assertIs(shows_ring(thing=thing, saying=saying, table=table), told)
        self.assertEqual((thing, kinds(thing)), (copy, kinds(copy)))

    def rings(self, seed, many):
        for table, saying in cases(seed, many):
            ring = ring_of(table, saying)
            if ring is not None:
                yield table, saying, ring

    def test_other_ways_to_write_a_ring(self):
        for table, saying, (stem, loop) in self.rings(84, 100):
            self.check(True, table, saying, (stem, loop * 3))
            self.check(True, table, saying, (stem + loop, loop))
            self.check(True, table, saying, (stem + loop[:1], loop[1:] + loop[:1]))
            self.check(False, table, saying, (stem + loop, []))
            self.check(False, table, saying, [stem, loop])
            self.check(False, table, saying, (tuple(stem), loop))
            self.check(False, table, saying, (stem, tuple(loop)))
            self.check(False, table, saying, (stem, loop, loop))
            self.check(False, table, saying, (stem + loop,))
            self.check(False, table, saying, stem + loop)
            self.check(False, table, saying, as_list((stem, loop)))

    def test_all_short_stems_and_loops(self):
        told = []
        for table, saying in cases(85, 60):
            if leads(saying) == 1 and beside(saying) < 2:
                steps = list(itertools.product(table.states, repeat=1))
                for many, more in ((0, 1), (0, 2), (1, 1), (1, 2), (2, 1)):
                    for walk in itertools.product(steps, repeat=many + more):
                        thing = (list(walk[:many]), list(walk[many:]))
                        told.append(is_ring_by_hand(table, saying, thing, 6))
                        self.check(told[-1], table, saying, thing)
        self.assertGreater(told.count(True), 60)
        self.assertGreater(told.count(False), 300)

    def test_what_stands_at_first_alone(self):
        # As often as one likes: the loop is broken when it's gone round for the third time.
        table = Table(("a", "b", "c", "d"), (("a", "a"), ("b", "c"), ("c", "d"), ("d", "d")), begins=("a", "b"),
                      shows=(("d", ("x",)),))
        saying = (SA, ("or", ("not", Q), P))
        self.assertIs(stands(table, saying, [("a",), ("a",)]), True)
        self.assertIs(stands(table, saying, [("a",)] * 3), False)
        self.check(False, table, saying, ([], [("a",)]))
        self.check(True, table, saying, ([("b",), ("c",)], [("d",)]))
        self.assertEqual(ring_of(table, saying), ([("b",), ("c",)], [("d",)]))

    def test_that_does_not_close(self):
        table = sample_table()
        self.check(True, table, (S, P), ([], [("a",)]))
        self.check(False, table, (S, ("or", P, ("not", P))), ([], [("a",), ("b",), ("c",)]))
        self.check(True, table, (S, ("or", P, ("not", P))), ([("a",), ("b",)], [("c",)]))
        self.check(True, table, (S, ("or", P, ("not", P))), ([], [("a",), ("b",)]))
        self.check(True, table, (S, ("or", P, ("not", P))), ([("a",)], [("b",), ("a",)]))
        # b is no begin, as it need not be but at first.
        self.check(False, table, (S, ("or", P, ("not", P))), ([], [("b",), ("a",)]))
        self.check(False, table, (S, P), ([], [("a",), ("b",)]))
        self.check(False, table, (S, P), ([], []))
        self.check(False, table, (S, P), ([("c",)], []))
        self.check(False, table, (S, P), ([("a",)], [("c",)]))

    def test_forty_steps(self):
        table = full_table(3)
        walk = [("abc"[at * at % 3],) for at in range(40)]
        for at in (0, 1, 20, 39):
            self.check(True, table, (SA, ALIKE), (walk[:at], walk[at:]))
        self.check(False, table, (SA, ALIKE), (walk, []))

    def test_things_of_any_kind(self):
        for table, saying, ring in self.rings(86, 20):
            for odd in ODD_THINGS + (True, False):
                self.check(False, table, saying, odd)
                if odd not in ("a", [], ()):
                    for thing in changed(ring, lambda one, odd=odd: odd):
                        self.check(False, table, saying, thing)


class ShowsNoneTest(unittest.TestCase):

    def check(self, told, table, saying, thing):
        copy = deep_copy(thing)
        self.assertIs(shows_none(table, saying, thing), told, thing)
        self.assertIs(shows_none(thing=thing, saying=saying, table=table), told)
        self.assertEqual((thing, kinds(thing)), (copy, kinds(copy)))

    def by_words(self, table, saying, thing):
        told = is_paper_by_words(table, saying, thing)
        self.check(told, table, saying, thing)
        return told

    def papers(self, seed, many, least=0):
        for table, saying in cases(seed, many):
            paper = paper_by_hand(table, saying)
            if paper is not None and len(paper) >= least:
                yield table, saying, paper

    def test_by_the_words(self):
        table = ring_table(3, shows=(("c", ("x",)),))
        saying, few = (S, ("not", P)), (((), (False, True)),)
        self.check(True, table, saying, [(("a",), few, 1), (("b",), few, 0)])
        self.check(True, table, saying, [(("b",), few, 8), (("a",), few, 10 ** 5000)])
        self.check(False, table, saying, [(("a",), few, 0), (("b",), few, 0)])
        self.check(False, table, saying, [(("a",), few, 0), (("b",), few, 1)])
        self.check(False, table, saying, [(("a",), few, 1)])
        self.check(False, table, saying, [(("b",), few, 1)])
        self.check(False, table, saying, [])
        # Of c, beside which the body can't be true as told, b would come behind a, and c then.
        self.check(True, table, saying, [(("a",), few, 2), (("b",), few, 1), (("c",), few, 3)])
        self.check(False, table, saying, [(("a",), few, 2), (("b",), few, 1), (("c",), few, 2)])
        self.check(True, sample_table(), (S, ("has", "p", "z")), [])

    def test_of_kind_ever_by_the_words(self):
        table, saying = sample_table(), (SA, ALIKE)
        few = ((("a",), (True,)), (("c",), (True,)))
        self.check(True, table, saying, [(("a",), few, 0), (("c",), few, 0)])
        self.check(False, table, saying, [(("a",), few[:1], 0), (("c",), few, 0)])
        self.check(False, table, saying, [(("a",), few[::-1], 0), (("c",), few, 0)])
        self.check(False, table, saying, [(("a",), few + few[1:], 0), (("c",), few, 0)])
        # More than is needed, where it's shown itself.
        self.check(True, table, saying, [(("a",), few, 0), (("c",), few, 0), (("a",), few[:1], 0)])
        self.check(False, table, saying, [(("a",), few, 0), (("c",), few, 0), (("a",), few[1:], 0)])
        self.check(False, table, saying, [(("a",), few, 0), (("c",), few, 0), (("c",), few[1:], 5)])

    def test_papers_by_hand_in_any_order_and_with_greater_ranks(self):
        chance, great = random.Random(87), 0
        for table, saying, paper in self.papers(87, 400):
            self.assertIsNotNone(least_none(table, saying))
            great += len(paper) > 2
            self.check(True, table, saying, paper)
            self.check(True, table, saying, paper[::-1])
            self.check(True, table, saying, [(states, few, 5 + 3 * rank) for states, few, rank in paper])
            self.check(True, table, saying, deep_copy(chance.sample(paper, len(paper))))
            self.check(False, table, saying, tuple(paper))
            if paper:
                self.check(False, table, saying, paper + paper[:1])
                self.check(False, table, saying, paper + [(*paper[0][:2], paper[0][2] + 1)])
                self.check(False, table, saying, [(states, few, -1 - rank) for states, few, rank in paper])
        self.assertGreater(great, 10)

    def test_no_paper_where_a_walk_stands_for_ever(self):
        # No ranks can fall round a ring of nodes, whatever they are.
        chance = random.Random(88)
        for table, saying in cases(88, 100):
            if least_none(table, saying) is None:
                self.assertIsNone(paper_by_hand(table, saying))
                nodes = sorted(all_nodes(table, saying))
                self.check(False, table, saying, [])
                for _ in range(4):
                    self.check(False, table, saying, [(*node, chance.randint(0, 9)) for node in nodes])

    def test_a_triple_left_out_and_ranks_that_do_not_fall(self):
        chance = random.Random(89)
        for table, saying, paper in self.papers(89, 200, 1):
            for at, (states, few, rank) in enumerate(paper[:10]):
                self.check(False, table, saying, paper[:at] + paper[at + 1:])
                for other in (0, rank - 1, rank + 1, chance.randint(0, 9)):
                    self.by_words(table, saying, paper[:at] + [(states, few, other)] + paper[at + 1:])

    def test_each_truth_turned_and_each_state_changed(self):
        chance = random.Random(90)
        told = []
        for table, saying, paper in self.papers(90, 100, 1):
            for at, row in enumerate(paper[:3]):
                for odd in (True, False, *table.states):
                    swapped = changed(row, lambda one, odd=odd: odd if type(one) is type(odd) else one)
                    for thing in chance.sample(swapped, min(4, len(swapped))):
                        self.by_words(table, saying, paper[:at] + [thing] + paper[at + 1:])
                        told.append(self.by_words(table, saying, paper + [thing]))
        self.assertGreater(told.count(True), 3)

    def test_triples_that_do_not_come_too(self):
        chance = random.Random(91)
        told = []
        for table, saying, paper in self.papers(91, 100):
            for _ in range(20):
                values = [tuple(chance.choice((True, False)) for _ in parts_of(saying[1])[1:]) + (True,)
                          for _ in range(chance.randint(1, 3))]
                few = {(tuple(chance.choice(table.states) for _ in range(beside(saying))), one) for one in values}
                row = (tuple(chance.choice(table.states) for _ in range(leads(saying))), tuple(sorted(few)),
                       chance.randint(0, 5))
                told.append(self.by_words(table, saying, paper + [row]))
        self.assertGreater(told.count(True), 100)
        self.assertGreater(told.count(False), 100)

    def test_spoilt_in_each_way(self):
        for table, saying, paper in self.papers(92, 100, 1):
            states, few, rank = paper[0]
            others, values = few[0]
            sides = ((others + ("a",), values), (others, values + (True,)), (others, values[1:]), (others, ()),
                     (others, values[:-1] + (False,)), (others, values[:-1] + (1,)), (values, others),
                     (list(others), values), (others, list(values)), [others, values], (others,),
                     (others, values, values), (), None, "ab", (others, True), ("z", values))
            rows = [(states, few[:-1] + (side,), rank) for side in sides]
            rows += [(states, (), rank), (states, list(few), rank), (states, few[0], rank), (states, None, rank),
                     (states + states[:1], few, rank), (states[1:], few, rank), (("z",) + states[1:], few, rank),
                     (list(states), few, rank), ("".join(states), few, rank), (states, few), (states, few, rank, rank),
                     [states, few, rank], (few, states, rank), (), None, (None,) * 3]
            rows += [(states, few, odd) for odd in (True, False, None, -1, "", "0", (0,), [0], 10 ** 5000 * -1)]
            for row in rows:
                self.check(False, table, saying, paper + [row])
                self.check(False, table, saying, [row] + paper[1:])
            self.check(False, table, saying, as_list(tuple(paper)))
            self.check(False, table, saying, [paper])

    def test_things_of_any_kind(self):
        for table, saying, paper in self.papers(93, 20, 1):
            for odd in ODD_THINGS + (True, False):
                if odd != []:
                    self.check(False, table, saying, odd)
                for thing in changed(paper[0], lambda one, odd=odd: odd):
                    self.by_words(table, saying, [thing] + paper[1:])
                    self.by_words(table, saying, paper + [thing])

    def test_just_one_of_both_can_be_shown(self):
        rings = 0
        for table, saying in cases(94, 200):
            ring, paper = ring_of(table, saying), paper_by_hand(table, saying)
            rings += ring is not None
            self.assertIs(shows_ring(table, saying, ring), ring is not None)
            self.assertIs(shows_none(table, saying, paper), paper is not None)
            self.assertIs(ring is None, paper is not None)
        self.assertTrue(30 < rings < 170, rings)


class RefusedTest(unittest.TestCase):

    def check_refused(self, made, field, told, table, saying):
        for number, ask in enumerate(ASKS):
            with self.subTest(number=number, saying=saying):
                with self.assertRaises(made.__bases__[0]) as caught:
                    ask(table, saying)
                self.assertIs(type(caught.exception), made)
                self.assertEqual(getattr(caught.exception, field), told)

    def test_sayings_of_other_kinds(self):
        for words, told in ((("all",), "all"), (("all",) * 3, "all"), (("all", "some"), "answer"),
                            (("all", "all", "some"), "answer"), (("all", "some", "some"), "answer")):
            heads = tuple(zip(words, "pqr"))
            self.check_refused(BadKind, "kind", told, sample_table(), (heads, P))
            # Ahead of TooGreat.
            deep = ("ahead", ("ahead", ("ahead", ("ahead", P))))
            self.check_refused(BadKind, "kind", told, ring_table(8), (heads, deep))

    def test_too_great(self):
        at = {512: 0, 1024: 0}
        shapes = (("some",), ("some",) * 2, ("some",) * 3, ("some", "all"), ("some", "some", "all"),
                  ("some", "all", "all"))
        for many, words, backs in itertools.product(range(1, 9), shapes, range(5)):
            body = P
            for _ in range(backs):
                body = ("ever", body)
            table, saying = ring_table(many, shows=(("a", ("x",)),)), (tuple(zip(words, "pqr")), body)
            told, most = many_by_hand(table, saying), 1024
            if "all" not in words:
                told, most = many ** len(words) * 2 ** backs_of(body), 512
            at[most] += told == most
            if told > most:
                self.check_refused(TooGreat, "many", told, table, saying)
            else:
                for ask in ASKS:
                    ask(table, saying)
        self.assertTrue(all(at.values()), at)

    def test_the_number_of_very_many(self):
        body = ("ahead", ("ahead", ("ahead", ("ahead", P))))
        saying = ((("some", "p"), ("all", "q"), ("all", "r")), body)
        self.check_refused(TooGreat, "many", 8 * 2 ** 1024, ring_table(8), saying)


if __name__ == "__main__":
    unittest.main()
