"""Sayings of all runs: [10], [1] (a), and [2] and [3] as far as they speak of them."""

import itertools
import random
import unittest

from manyruns.bodies import is_saying, looks_back, parts_of
from manyruns.errors import BadKind, TooGreat
from manyruns.sides import least_break, refuse_sides, shows_all, shows_break, side_by_side
from manyruns.stepping import many_sides
from manyruns.tables import Table
from manyruns.values import values_of
from tests.handanswers import kept
from tests.helpers import (ODD_THINGS, as_list, changed, deep_copy, full_table, kinds, random_body,
                           random_heads, random_table, ring_table, sample_table, true_at, walks_by_runs)

ONE = (("all", "p"),)
TWO = (("all", "p"), ("all", "q"))
THREE = (("all", "p"), ("all", "q"), ("all", "r"))
P = ("has", "p", "x")
ALIKE = ("alike", "p", "q", ("x",))
ASKS = (least_break, side_by_side, lambda table, saying: shows_break(table, saying, []),
        lambda table, saying: shows_all(table, saying, []))


def break_by_hand(table, saying, most):
    """The first walk of the fewest steps, of so many at most, that doesn't keep it; None."""
    for steps in range(1, most + 1):
        for walk in walks_by_runs(table, len(saying[0]), steps):
            if not kept(table, saying, walk):
                return walk
    return None


def sides_by_hand(table, saying, steps):
    """All sides at the last step of a walk of so many that keeps it."""
    found = set()
    for walk in walks_by_runs(table, len(saying[0]), steps):
        if kept(table, saying, walk):
            found.add((walk[-1], tuple(true_at(table, saying, walk, part, steps - 1) for part in parts_of(saying[1]))))
    return found


def behind_by_words(table, saying, side, first=False):
    """The sides behind this one, or all of a first step, by values_of."""
    nexts = [table.begins if first else [other for one, other in table.moves if one == state] for state in side[0]]
    return {(states, values_of(saying, tuple(dict(table.shows).get(state, ()) for state in states),
                               ahead=None if first else side[1])) for states in itertools.product(*nexts)}


def is_paper(table, saying, thing):
    """Whether a list of pairs of the right shape is a paper, straight by the words."""
    there = set(thing)
    firsts = behind_by_words(table, saying, (("a",) * len(saying[0]), ()), first=True)
    return (firsts <= there and all(values[-1] for _, values in there)
            and all(behind_by_words(table, saying, side) <= there for side in there))


def greatest_paper(table, saying):
    """All sides, come to or not, that stay among themselves and have the body true."""
    many = len(parts_of(saying[1]))
    there = {(states, values + (True,)) for states in itertools.product(table.states, repeat=len(saying[0]))
             for values in itertools.product((True, False), repeat=many - 1)}
    while True:
        left = {side for side in there if behind_by_words(table, saying, side) <= there}
        if left == there:
            return sorted(there)
        there = left


def random_saying(chance, many, deep):
    """A saying of so many runs; often one that is not broken at the first step."""
    heads = random_heads(chance, ("all",) * many, many)
    runs = [run for _, run in heads]
    while True:
        one, other = random_body(chance, runs, deep), random_body(chance, runs, deep)
        body = chance.choice((one, ("not", ("ahead", one)), ("not", ("and", one, ("ahead", other))),
                              ("not", ("ahead", ("ahead", one))), ("or", one, ("not", one)),
                              ("or", ("not", ("ahead", one)), other)))
        if is_saying((heads, body)):
            return heads, body


def random_cases(seed, many):
    chance = random.Random(seed)
    for _ in range(many):
        table = random_table(chance, 3, 2)
        yield table, random_saying(chance, chance.randint(1, 3), 3)


class LeastBreakTest(unittest.TestCase):

    def check(self, table, saying, told):
        walk = least_break(table, saying)
        self.assertEqual((walk, kinds(walk)), (told, kinds(told)))
        self.assertEqual(least_break(saying=saying, table=table), told)
        if walk is not None:
            self.assertIs(shows_break(table, saying, walk), True)

    def test_at_the_first_step(self):
        table = sample_table()
        self.check(table, (ONE, ("has", "p", "y")), [("a",)])
        self.check(table, (ONE, ("not", ("has", "p", "y"))), [("c",)])
        self.check(table, (TWO, ("alike", "p", "q", ("x", "y"))), [("a", "c")])
        self.check(table, (TWO, ("or", ("has", "p", "y"), ("not", ("has", "q", "y")))), [("a", "c")])
        self.check(table, (THREE, ("or", ("has", "r", "y"), ("not", ("has", "q", "y")))), [("a", "c", "a")])

    def test_later(self):
        table = sample_table()
        self.check(table, (ONE, P), [("a",), ("b",)])
        self.check(table, (TWO, ALIKE), [("a", "a"), ("a", "b")])
        self.check(table, (ONE, ("since", P, ("has", "p", "y"))), [("a",)])
        self.check(table, (ONE, ("not", ("ahead", ("not", P)))), [("a",), ("b",), ("a",)])
        self.check(table, (ONE, ("not", ("and", ("has", "p", "y"), ("ahead", ("ahead", ("ever", ("not", P))))))),
                   [("a",), ("b",), ("c",), ("c",)])

    def test_none(self):
        table = sample_table()
        self.check(table, (ONE, ("or", P, ("not", P))), None)
        self.check(table, (TWO, ("or", ("not", ALIKE), ALIKE)), None)
        self.check(table, (ONE, ("since", ("or", P, ("not", P)), P)), None)
        self.check(full_table(3), (TWO, ALIKE), None)

    def test_far_ahead(self):
        for many in range(2, 9):
            table = ring_table(many, shows=(("abcdefgh"[many - 1], ("x",)),))
            self.check(table, (ONE, ("not", P)), [(state,) for state in table.states])
            self.check(table, (ONE, ("not", ("ahead", P))), [(state,) for state in table.states] + [("a",)])
            body = ("not", ("and", P, ("ever", ("ahead", P))))
            self.check(table, (ONE, body), [(state,) for state in table.states] * 2)

    def test_the_first_of_as_many_steps(self):
        table = Table(("a", "b", "c", "d"), (("a", "b"), ("a", "c"), ("b", "d"), ("c", "d"), ("d", "d")), begins=("a",),
                      shows=(("d", ("x",)),))
        self.check(table, (ONE, ("not", P)), [("a",), ("b",), ("d",)])
        self.check(table, (TWO, ("not", ("and", P, ("has", "q", "x")))), [("a", "a"), ("b", "b"), ("d", "d")])
        table = Table(("a", "b", "c"), (("a", "a"), ("a", "c"), ("b", "a"), ("c", "b")), begins=("a", "b"),
                      shows=(("c", ("x",)),))
        self.check(table, (ONE, ("not", ("ahead", P))), [("a",), ("c",), ("b",)])

    def test_what_lies_behind_a_break_does_not_count(self):
        table = ring_table(4, shows=(("b", ("x",)), ("d", ("y",))))
        self.check(table, (ONE, ("not", ("or", P, ("has", "p", "y")))), [("a",), ("b",)])

    def test_beside_all_walks_of_each_length(self):
        lengths = {1: 7, 2: 5, 3: 3}
        breaks = []
        for table, saying in random_cases(14, 150):
            most = lengths[len(saying[0])]
            told = break_by_hand(table, saying, most)
            walk = least_break(table, saying)
            breaks.append(walk)
            if told is None and walk is not None:
                self.assertGreater(len(walk), most)
                self.assertIs(kept(table, saying, walk[:-1]), True)
                self.assertIs(kept(table, saying, walk), False)
            else:
                self.check(table, saying, told)
        self.assertGreater(breaks.count(None), 20)
        self.assertGreater(len([walk for walk in breaks if walk and len(walk) > 1]), 20)

    def test_three_runs_of_eight_states(self):
        table = ring_table(8, shows=(("h", ("x",)),))
        body = ("or", ("not", P), ("not", ("and", ("has", "q", "x"), ("has", "r", "x"))))
        self.check(table, (THREE, body), [(state,) * 3 for state in table.states])

    def test_told_again_and_the_askers_own(self):
        table, saying = sample_table(), (TWO, ALIKE)
        told = least_break(table, saying)
        told.append(None)
        told[0] = None
        self.check(table, saying, [("a", "a"), ("a", "b")])
        self.assertEqual((table, saying), (sample_table(), deep_copy(saying)))


class SideBySideTest(unittest.TestCase):

    def test_by_the_words(self):
        table = sample_table()
        self.assertEqual(side_by_side(table, (ONE, P)), [(("a",), (True,)), (("c",), (True,))])
        self.assertEqual(side_by_side(table, (ONE, ("ever", P))),
                         [(("a",), (True, True)), (("b",), (False, True)), (("c",), (True, True))])
        self.assertEqual(side_by_side(table, (ONE, ("not", ("ahead", P)))),
                         [(("a",), (True, False, True)), (("c",), (True, False, True))])
        self.assertEqual(side_by_side(table, (ONE, ("has", "p", "z"))), [])
        told = side_by_side(full_table(2), (TWO, ALIKE))
        self.assertEqual(told, [((one, other), (True,)) for one in "ab" for other in "ab"])
        self.assertEqual(kinds(told), (list, [kinds((("a", "b"), (True,)))] * 4))

    def test_beside_all_walks(self):
        steady = 0
        lengths = {1: 7, 2: 5, 3: 3}
        for table, saying in random_cases(15, 150):
            most = lengths[len(saying[0])]
            told = side_by_side(table, saying)
            self.assertEqual(told, sorted(set(told)))
            self.assertEqual(side_by_side(saying=saying, table=table), told)
            come, fresh = set(), set()
            for steps in range(1, most + 1):
                fresh = sides_by_hand(table, saying, steps) - come
                come |= fresh
            self.assertLessEqual(come, set(told))
            # No new ones in the last step: then none will come at all.
            if not fresh:
                steady += 1
                self.assertEqual(told, sorted(come))
        self.assertGreater(steady, 75)

    def test_told_again_and_the_askers_own(self):
        table, saying = sample_table(), (TWO, ALIKE)
        told = side_by_side(table, saying)
        copy = deep_copy(told)
        told.reverse()
        told.pop()
        self.assertEqual(side_by_side(table, saying), copy)
        self.assertEqual(table, sample_table())


class ShowsBreakTest(unittest.TestCase):

    def check(self, told, table, saying, thing):
        copy = deep_copy(thing)
        self.assertIs(shows_break(table, saying, thing), told, thing)
        self.assertIs(shows_break(thing=thing, saying=saying, table=table), told)
        self.assertEqual(kinds(thing), kinds(copy))

    def test_all_walks(self):
        for table, saying in random_cases(16, 40):
            for steps in (1, 2, 3):
                for walk in walks_by_runs(table, len(saying[0]), steps)[:50]:
                    self.check(not kept(table, saying, walk), table, saying, walk)
                    self.check(False, table, saying, tuple(walk))

    def test_broken_at_a_step_and_not_at_the_last_one(self):
        table = sample_table()
        self.check(True, table, (ONE, P), [("a",), ("b",), ("c",)])
        self.check(True, table, (ONE, P), [("a",), ("b",), ("a",)] + [("a",)] * 37)
        self.check(False, table, (ONE, P), [("a",), ("a",)] + [("a",)] * 38)

    def test_no_walks(self):
        table, saying = sample_table(), (TWO, ALIKE)
        walk = [("a", "a"), ("a", "b")]
        self.check(True, table, saying, walk)
        self.check(False, table, saying, walk[1:])
        self.check(False, table, saying, walk + [("c", "a")])
        self.check(False, table, saying, walk + [("a",)])
        self.check(False, table, saying, as_list(tuple(walk)))
        for odd in ODD_THINGS + (True, False, "d", ["a"], walk):
            if odd != "a":
                for thing in changed(walk, lambda one, odd=odd: odd):
                    self.check(thing == walk, table, saying, thing)


class ShowsAllTest(unittest.TestCase):

    def check(self, told, table, saying, thing):
        copy = deep_copy(thing)
        self.assertIs(shows_all(table, saying, thing), told, thing)
        self.assertIs(shows_all(thing=thing, saying=saying, table=table), told)
        self.assertEqual((thing, kinds(thing)), (copy, kinds(copy)))

    def papers(self, seed, many):
        for table, saying in random_cases(seed, many):
            if least_break(table, saying) is None:
                yield table, saying, side_by_side(table, saying)

    def test_told_pairs_in_any_order_and_twice(self):
        chance = random.Random(17)
        for table, saying, paper in self.papers(17, 150):
            self.check(True, table, saying, paper)
            self.check(True, table, saying, paper[::-1])
            self.check(True, table, saying, paper + paper[:1])
            self.check(True, table, saying, deep_copy(chance.sample(paper + paper, 2 * len(paper))))
            self.check(False, table, saying, tuple(paper))

    def test_a_pair_left_out(self):
        for table, saying, paper in self.papers(18, 100):
            for at in range(len(paper)):
                self.check(False, table, saying, paper[:at] + paper[at + 1:])
            self.check(False, table, saying, [])

    def test_pairs_that_do_not_come_too(self):
        greater = 0
        for table, saying in random_cases(19, 60):
            if len(parts_of(saying[1])) <= 5 and len(saying[0]) < 3:
                most = greatest_paper(table, saying)
                holds = least_break(table, saying) is None
                self.check(holds, table, saying, most)
                if holds:
                    come = side_by_side(table, saying)
                    greater += len(most) > len(come)
                    self.assertLessEqual(set(come), set(most))
                    for side in most:
                        self.check(is_paper(table, saying, come + [side]), table, saying, come + [side])
        self.assertGreater(greater, 3)

    def test_each_truth_turned_and_each_state_changed(self):
        for table, saying, paper in self.papers(20, 60):
            for at, (states, values) in enumerate(paper[:8]):
                for place, value in enumerate(values):
                    turned = (states, values[:place] + (not value,) + values[place + 1:])
                    for thing in (paper[:at] + [turned] + paper[at + 1:], paper + [turned]):
                        self.check(is_paper(table, saying, thing), table, saying, thing)
                    for odd in (1, 0, None, "", ()):
                        turned = (states, values[:place] + (odd,) + values[place + 1:])
                        self.check(False, table, saying, paper[:at] + [turned] + paper[at + 1:])
                        self.check(False, table, saying, paper + [turned])
                for place in range(len(states)):
                    for state in table.states:
                        other = (states[:place] + (state,) + states[place + 1:], values)
                        for thing in (paper[:at] + [other] + paper[at + 1:], paper + [other]):
                            self.check(is_paper(table, saying, thing), table, saying, thing)

    def test_spoilt_in_each_way(self):
        for table, saying, paper in self.papers(21, 40):
            states, values = paper[0]
            for spoilt in ((states + states[:1], values), (states[1:], values), (states, values + (True,)),
                           (states, (True,) + values), (states, values[1:]), (states, values[:-1]),
                           (states, values[:-1] + (False,)), (states, ()), ((), values), (values, states),
                           (("z",) + states[1:], values), (("",) + states[1:], values), (list(states), values),
                           (states, list(values)), [states, values], (states,), (states, values, values), (),
                           (None,) * 2, ("".join(states), values), (states, True), (states[0], values)):
                self.check(False, table, saying, paper + [spoilt])
                self.check(False, table, saying, [spoilt] + paper[1:])
            self.check(False, table, saying, as_list(tuple(paper)))
            self.check(False, table, saying, [paper])
            self.check(False, table, saying, (paper, paper))

    def test_things_of_any_kind(self):
        for table, saying, paper in self.papers(22, 20):
            for odd in ODD_THINGS:
                self.check(False, table, saying, odd)
                # The letter may be a state's name.
                if odd != "a":
                    for thing in changed(paper[0], lambda one, odd=odd: odd):
                        self.check(False, table, saying, paper + [thing])
                        self.check(False, table, saying, [thing] + paper[1:])

    def test_a_table_of_one_state(self):
        table, saying = ring_table(1), (ONE, ("not", P))
        side = (("a",), (False, True))
        self.check(True, table, saying, [side])
        self.check(False, table, saying, [])
        self.check(False, table, saying, [(("a",), (True, True))])
        self.check(True, table, (ONE, ("not", ("ahead", P))), [(("a",), (False, False, True))])

    def test_of_many_entries(self):
        table = full_table(4, shows=(("a", ("x",)),))
        saying = (THREE, ("or", ("or", P, ("not", P)), ("ever", ("since", ("ahead", P), P))))
        paper = side_by_side(table, saying)
        self.assertEqual(many_sides(table, saying), 512)
        self.check(True, table, saying, (paper * 8)[:1100])
        self.check(False, table, saying, (paper[1:] * 8)[:1100])


class OneOfBothTest(unittest.TestCase):

    def test_just_one_of_both_is_shown(self):
        held = 0
        for table, saying in random_cases(23, 300):
            walk, paper = least_break(table, saying), side_by_side(table, saying)
            self.assertIs(shows_all(table, saying, paper), walk is None)
            self.assertIs(shows_break(table, saying, walk), walk is not None)
            held += walk is None
        self.assertTrue(30 < held < 270, held)

    def test_no_paper_of_what_is_broken(self):
        for table, saying in random_cases(24, 80):
            if least_break(table, saying) is not None and len(parts_of(saying[1])) <= 5 and len(saying[0]) < 3:
                self.assertIs(shows_all(table, saying, greatest_paper(table, saying)), False)


class RefusedTest(unittest.TestCase):

    def check_refused(self, made, field, told, table, saying):
        for number, ask in enumerate(ASKS):
            with self.subTest(number=number, saying=saying):
                with self.assertRaises(made.__bases__[0]) as caught:
                    ask(table, saying)
                self.assertIs(type(caught.exception), made)
                self.assertEqual(getattr(caught.exception, field), told)

    def test_sayings_of_other_kinds(self):
        for words, told in ((("some",), "some"), (("some",) * 3, "some"), (("all", "some"), "answer"),
                            (("all", "some", "some"), "answer"), (("all", "all", "some"), "answer"),
                            (("some", "all"), "ever"), (("some", "some", "all"), "ever")):
            saying = (tuple(zip(words, "pqr")), P)
            self.check_refused(BadKind, "kind", told, sample_table(), saying)
            # Ahead of TooGreat.
            deep = (saying[0], ("ahead", ("ahead", ("ahead", ("ahead", P)))))
            self.check_refused(BadKind, "kind", told, ring_table(8), deep)

    def test_too_great(self):
        for many, heads, backs in itertools.product(range(1, 9), (ONE, TWO, THREE), range(5)):
            body = P
            for _ in range(backs):
                body = ("ever", body)
            table, told = ring_table(many, shows=(("a", ("x",)),)), many ** len(heads) * 2 ** backs
            self.assertEqual(looks_back(body), backs)
            self.assertEqual(many_sides(table, (heads, body)), told)
            if told > 512:
                self.check_refused(TooGreat, "many", told, table, (heads, body))
            else:
                for ask in ASKS:
                    ask(table, (heads, body))

    def test_states_that_do_not_come_count_too(self):
        states = tuple("abcdefgh")
        table = Table(states, tuple((state, state) for state in states), begins=("a",))
        self.check_refused(TooGreat, "many", 1024, table, (THREE, ("ahead", P)))
        self.assertEqual(side_by_side(table, (THREE, ("not", P))), [(("a",) * 3, (False, True))])

    def test_parts_that_do_not_look_back_do_not_count(self):
        body = P
        for _ in range(11):
            body = ("not", body)
        self.assertEqual(least_break(ring_table(8), (THREE, body)), None)

    def test_above_another_bound(self):
        table, saying = ring_table(8), (TWO, P)
        refuse_sides(table, saying, 64)
        with self.assertRaises(TooGreat) as caught:
            refuse_sides(table, saying, 63)
        self.assertEqual(caught.exception.many, 64)
        with self.assertRaises(BadKind):
            refuse_sides(table, ((("some", "p"),), P), 0)


if __name__ == "__main__":
    unittest.main()
