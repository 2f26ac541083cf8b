"""Walks: [5], and [2] and [3] as far as they speak of walks."""

import itertools
import random
import unittest

from manyruns.tables import Table
from manyruns.walks import first_steps, is_walk, run_of, shown_of, steps_behind, walks_of
from tests.helpers import (ODD_THINGS, all_walks, changed, deep_copy, fits, full_table, kinds, nested, random_table,
                           ring_table, sample_table, walks_by_runs)


class IsWalkTest(unittest.TestCase):

    def check(self, told, table, many, thing):
        copy = deep_copy(thing)
        self.assertIs(is_walk(table, many, thing), told, (many, thing))
        self.assertIs(is_walk(thing=thing, many=many, table=table), told)
        self.assertEqual((thing, kinds(thing)), (copy, kinds(copy)))

    def test_each_list_of_states_by_hand(self):
        table = sample_table()
        for many, steps in ((1, 1), (1, 2), (1, 3), (1, 4), (2, 1), (2, 2), (2, 3), (3, 1), (3, 2)):
            tuples = list(itertools.product(table.states, repeat=many))
            for walk in itertools.product(tuples, repeat=steps):
                self.assertIs(is_walk(table, many, list(walk)), fits(table, walk), walk)

    def test_some_by_the_words(self):
        table = sample_table()
        self.check(True, table, 1, [("a",)])
        self.check(True, table, 1, [("c",), ("c",)])
        self.check(True, table, 2, [("a", "c"), ("b", "c"), ("c", "c")])
        self.check(True, table, 3, [("a", "a", "c"), ("a", "b", "c"), ("b", "a", "c"), ("c", "a", "c")])

    def test_one_to_forty_steps(self):
        table = ring_table(3)
        for many in (1, 2, 3):
            for steps in range(1, 41):
                walk = [("abc"[at % 3],) * many for at in range(steps)]
                self.check(True, table, many, walk)
                self.check(False, table, many, walk + [("abc"[(steps + 1) % 3],) * many])
                self.check(False, table, many, walk[1:])

    def test_a_move_that_is_none_at_each_step(self):
        table = sample_table()
        walk = [("a", "a"), ("a", "b"), ("b", "c"), ("c", "c"), ("c", "c")]
        self.check(True, table, 2, walk)
        for at in range(1, 5):
            for run in range(2):
                for state in table.states:
                    spoilt = list(walk)
                    spoilt[at] = tuple(state if place == run else walk[at][place] for place in range(2))
                    self.check(fits(table, spoilt), table, 2, spoilt)
        self.check(False, table, 2, walk[:4] + [("c", "a")])
        self.check(False, table, 2, walk[:4] + [("a", "c")])

    def test_no_step(self):
        for many in (1, 2, 3):
            self.check(False, sample_table(), many, [])
            self.check(False, sample_table(), many, [()])

    def test_steps_of_more_or_fewer_states(self):
        table = full_table(2)
        for many, other in itertools.permutations((0, 1, 2, 3), 2):
            self.check(False, table, many or 1, [("a",) * (other if many else 2)])
            if many:
                self.check(False, table, many, [("a",) * many, ("a",) * other, ("a",) * many])
                self.check(False, table, many, [("a",) * many, ("b",) * many, ("a",) * other])

    def test_a_begin_that_is_none(self):
        table = sample_table()
        self.check(False, table, 1, [("b",)])
        self.check(False, table, 2, [("a", "b"), ("a", "a")])
        self.check(False, table, 3, [("c", "c", "b"), ("c", "c", "c")])

    def test_a_list_for_a_step_and_a_tuple_for_the_walk(self):
        table = full_table(2)
        for many in (1, 2, 3):
            step = ("a",) * many
            self.check(True, table, many, [step, step])
            for thing in ((step, step), [list(step), step], [step, list(step)], [[step, step]], (step,), [[step]],
                          [(step,)], [((step,),)], step, list(step), "".join(step), ["".join(step)]):
                self.check(False, table, many, thing)

    def test_strange_things_in_each_place(self):
        table = full_table(3)
        walk = [("a", "b"), ("c", "c"), ("b", "a")]
        self.check(True, table, 2, walk)
        for odd in ODD_THINGS + ("d", "A", "aa", "a\n", ["a"], ("a",), True, False):
            if odd == "a":
                continue
            for thing in changed(walk, lambda one, odd=odd: odd):
                self.check(False, table, 2, thing)

    def test_odd_things(self):
        for table in (sample_table(), full_table(1)):
            for many in (1, 2, 3):
                for thing in ODD_THINGS + (True, False, "abc", ["a"], ["aa"], nested(19, ("a",), list)):
                    self.check(False, table, many, thing)


class WalksOfTest(unittest.TestCase):

    def check(self, table, many, steps, told):
        walks = walks_of(table, many, steps)
        self.assertEqual(walks, told)
        self.assertEqual(kinds(walks), kinds(told))
        self.assertEqual(walks, sorted(walks))
        for walk in walks:
            self.assertIs(is_walk(table, many, walk), True)

    def test_beside_all_walks_gone_through_by_hand(self):
        rows = ((1, 1), (1, 2), (1, 3), (1, 4), (1, 5), (2, 1), (2, 2), (2, 3), (3, 1), (3, 2))
        for table in (sample_table(), full_table(2), full_table(3, begins=("b",)), ring_table(3)):
            for many, steps in rows:
                with self.subTest(table=table.moves, many=many, steps=steps):
                    self.check(table, many, steps, all_walks(table, many, steps))

    def test_beside_single_runs_put_side_by_side(self):
        chance = random.Random(5)
        for _ in range(60):
            table = random_table(chance, 8, 3)
            for many, steps in ((1, 6), (2, 3), (3, 2)):
                told = walks_by_runs(table, many, steps)
                if len(told) <= 2000:
                    self.check(table, many, steps, told)

    def test_many_walks(self):
        self.check(full_table(2), 1, 10, walks_by_runs(full_table(2), 1, 10))
        self.assertEqual(len(walks_of(full_table(2), 1, 10)), 1024)
        self.assertEqual(len(walks_of(full_table(3, begins=("a", "b")), 1, 7)), 1458)
        self.assertEqual(len(walks_of(full_table(2), 3, 3)), 512)
        self.check(full_table(4, begins=("a",)), 2, 3, walks_by_runs(full_table(4, begins=("a",)), 2, 3))

    def test_forty_steps(self):
        self.check(ring_table(8), 3, 40, [[("abcdefgh"[at % 8],) * 3 for at in range(40)]])
        self.assertEqual(len(walks_of(sample_table(), 1, 11)), len(walks_by_runs(sample_table(), 1, 11)))

    def test_one_step_is_all_begins(self):
        self.assertEqual(walks_of(sample_table(), 2, 1), [[("a", "a")], [("a", "c")], [("c", "a")], [("c", "c")]])

    def test_no_steps(self):
        self.assertEqual(walks_of(sample_table(), 2, 0), [[]])

    def test_by_name(self):
        self.assertEqual(walks_of(steps=2, many=1, table=sample_table()),
                         [[("a",), ("a",)], [("a",), ("b",)], [("c",), ("c",)]])

    def test_told_lists_are_the_askers_own(self):
        table = sample_table()
        told = walks_of(table, 1, 3)
        copy = deep_copy(told)
        self.assertEqual(len({id(walk) for walk in told}), len(told))
        told[0].append(("z",))
        told[1].clear()
        told.pop()
        self.assertEqual(walks_of(table, 1, 3), copy)
        self.assertEqual(table, sample_table())


class RunOfTest(unittest.TestCase):

    def test_each_place_in_lists_and_tuples(self):
        walk = [("a", "c", "a"), ("b", "c", "a"), ("c", "c", "b")]
        for place, told in enumerate((["a", "b", "c"], ["c", "c", "c"], ["a", "a", "b"])):
            for thing in (walk, tuple(walk)):
                self.assertEqual(run_of(thing, place), told)
                self.assertIs(type(run_of(walk=thing, place=place)), list)

    def test_runs_side_by_side_are_the_walk(self):
        for walk in walks_of(full_table(2), 3, 2):
            self.assertEqual(list(zip(*[run_of(walk, place) for place in range(3)])), walk)

    def test_one_step_and_forty(self):
        self.assertEqual(run_of([("a",)], 0), ["a"])
        self.assertEqual(run_of([("a", "b")] * 40, 1), ["b"] * 40)

    def test_changes_nothing_and_is_the_askers_own(self):
        walk = [("a", "c"), ("b", "c")]
        told = run_of(walk, 0)
        told.append("z")
        self.assertEqual((walk, run_of(walk, 0)), ([("a", "c"), ("b", "c")], ["a", "b"]))


class ShownOfTest(unittest.TestCase):

    def test_states_that_show_and_that_show_nothing(self):
        walk = [("a", "c"), ("b", "c"), ("c", "c")]
        told = [(("x",), ("x", "y")), ((), ("x", "y")), (("x", "y"), ("x", "y"))]
        for thing in (walk, tuple(walk)):
            self.assertEqual(shown_of(sample_table(), thing), told)
            self.assertEqual(kinds(shown_of(walk=thing, table=sample_table())), kinds(told))
        self.assertEqual(shown_of(full_table(2), [("a", "b")]), [((), ())])
        self.assertEqual(shown_of(sample_table(), [("b",)] * 40), [((),)] * 40)

    def test_beside_the_tables_shows(self):
        table = Table(("a", "b"), (("a", "a"), ("a", "b"), ("b", "a")), begins=("a",), shows=(("b", ("m", "n")),))
        for walk in walks_of(table, 3, 3):
            told = [tuple(dict(table.shows).get(state, ()) for state in step) for step in walk]
            self.assertEqual(shown_of(table, walk), told)

    def test_changes_nothing_and_is_the_askers_own(self):
        table, walk = sample_table(), [("a",), ("b",)]
        told = shown_of(table, walk)
        told[0] = ()
        told.append(())
        self.assertEqual(shown_of(table, walk), [(("x",),), ((),)])
        self.assertEqual((walk, table), ([("a",), ("b",)], sample_table()))


class StepsTest(unittest.TestCase):

    def test_first_steps(self):
        self.assertEqual(first_steps(sample_table(), 1), [("a",), ("c",)])
        self.assertEqual(first_steps(sample_table(), 2), [("a", "a"), ("a", "c"), ("c", "a"), ("c", "c")])

    def test_steps_behind(self):
        self.assertEqual(steps_behind(sample_table(), ("b", "a")), [("a", "a"), ("a", "b"), ("c", "a"), ("c", "b")])
        self.assertEqual(steps_behind(sample_table(), ("c",)), [("c",)])


if __name__ == "__main__":
    unittest.main()
