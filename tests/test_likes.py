"""States that stay alike: [14], [1] (e), and [2] and [3] as far as they speak of them."""

import itertools
import random
import unittest

from manyruns.likes import classes, follows, pressed, shown_rows, shows_follows
from manyruns.rules import MOVES, STATES
from manyruns.tables import Table
from tests.helpers import (ODD_THINGS, as_list, changed, deep_copy, full_table, kinds, random_table, ring_table,
                           sample_table, walks_by_runs)

MARKS = ((), ("x",), ("x", "y"), ("x", "y", "z"), ("w",), ("w", "y"))


def cases(seed, many):
    """Tables of one to eight states, and marks, some of which no state shows."""
    chance = random.Random(seed)
    for number in range(many):
        table = random_table(chance, 1 + number % STATES, 3)
        yield table, chance.choice(MARKS)


def seen(table, marks, state):
    return tuple(mark for mark in dict(table.shows).get(state, ()) if mark in marks)


def nexts(table, state):
    return [other for one, other in table.moves if one == state]


def stays(table, marks, pair, there):
    """Whether a pair is as [14] tells, by the pairs that are there."""
    return (seen(table, marks, pair[0]) == seen(table, marks, pair[1])
            and all(any((one, other) in there for other in nexts(table, pair[1])) for one in nexts(table, pair[0])))


def follows_by_hand(table, marks):
    """What is left when pairs that don't stay are taken away, one by one."""
    left = set(itertools.product(table.states, repeat=2))
    while True:
        sunk = [pair for pair in left if not stays(table, marks, pair, left)]
        if not sunk:
            return sorted(left)
        left.remove(sunk[0])


def partitions(states):
    """All ways to part the states, as lists of lists."""
    if not states:
        yield []
        return
    for rest in partitions(states[1:]):
        yield [[states[0]]] + rest
        for at in range(len(rest)):
            yield rest[:at] + [[states[0]] + rest[at]] + rest[at + 1:]


def is_parting(table, marks, parts):
    """Whether all of each part show the same, and have moves to the same parts."""
    part_of = {state: at for at, part in enumerate(parts) for state in part}
    return all(len({(seen(table, marks, state), frozenset(part_of[other] for other in nexts(table, state)))
                    for state in part}) == 1 for part in parts)


class FollowsTest(unittest.TestCase):

    def check(self, table, marks, told):
        pairs = follows(table, marks)
        self.assertEqual((pairs, kinds(pairs)), (told, kinds(told)))
        self.assertEqual(follows(marks=marks, table=table), told)
        self.assertIs(shows_follows(table, marks, pairs), True)

    def test_by_the_words(self):
        table = sample_table()
        every = list(itertools.product("abc", repeat=2))
        for marks in ((), ("w",), ("v", "w", "z")):
            self.check(table, marks, every)
        self.check(table, ("x",), [("a", "a"), ("b", "b"), ("c", "a"), ("c", "c")])
        self.check(table, ("x", "y"), [("a", "a"), ("b", "b"), ("c", "c")])
        self.check(ring_table(1), ("x",), [("a", "a")])

    def test_one_follows_that_has_more_moves(self):
        table = Table(("a", "b", "c", "d"), (("a", "a"), ("b", "b"), ("b", "c"), ("c", "c"), ("d", "d")),
                      begins=("a",), shows=(("c", ("x",)),))
        told = [("a", "a"), ("a", "b"), ("a", "d"), ("b", "b"), ("c", "c"), ("d", "a"), ("d", "b"), ("d", "d")]
        self.check(table, ("x",), told)

    def test_beside_a_sinking_by_hand(self):
        found = []
        for table, marks in cases(101, 300):
            told = follows_by_hand(table, marks)
            found.append(len(told) / len(table.states) ** 2)
            self.check(table, marks, told)
        self.assertGreater(len([part for part in found if part == 1]), 50)
        self.assertGreater(len([part for part in found if part < 0.6]), 50)

    def test_the_most_of_them(self):
        # No pairs but those told can stand in any such list, two states' all lists tried.
        chance = random.Random(102)
        for _ in range(30):
            table = random_table(chance, 3, 2)
            pairs = list(itertools.product(table.states, repeat=2))
            most = set()
            for chosen in itertools.product((True, False), repeat=len(pairs)):
                some = {pair for pair, taken in zip(pairs, chosen) if taken}
                if all(stays(table, ("x",), pair, some) for pair in some):
                    most |= some
            self.check(table, ("x",), sorted(most))

    def test_rows_of_those_that_follow_are_had_too(self):
        for table, marks in cases(103, 100):
            for one, other in follows(table, marks):
                rows = [shown_rows(Table(table.states, table.moves, begins=(state,), shows=table.shows), marks, 3)
                        for state in (one, other)]
                self.assertTrue(all(row in rows[1] for row in rows[0]))

    def test_eight_states_and_all_moves(self):
        states = tuple("abcdefgh")
        moves = tuple(sorted((state, states[(at + step) % 8]) for at, state in enumerate(states) for step in (0, 1, 3)))
        self.assertEqual(len(moves), MOVES)
        self.check(Table(states, moves, begins=("a",)), ("x",), list(itertools.product(states, repeat=2)))
        table = Table(states, moves, begins=("a",), shows=(("h", ("x",)),))
        self.check(table, ("x",), follows_by_hand(table, ("x",)))
        self.check(ring_table(8, shows=(("h", ("x",)),)), ("x",), [(state, state) for state in states])

    def test_the_askers_own(self):
        told = follows(sample_table(), ("x",))
        copy = deep_copy(told)
        told.clear()
        self.assertEqual(follows(sample_table(), ("x",)), copy)


class ClassesTest(unittest.TestCase):

    def check(self, table, marks, told):
        found = classes(table, marks)
        self.assertEqual((found, kinds(found)), (told, kinds(told)))
        self.assertEqual(classes(marks=marks, table=table), told)

    def test_by_the_words(self):
        table = sample_table()
        self.check(table, (), [("a", "b", "c")])
        self.check(table, ("w",), [("a", "b", "c")])
        self.check(table, ("x",), [("a",), ("b",), ("c",)])
        self.check(table, ("y",), [("a",), ("b",), ("c",)])
        self.check(ring_table(4, shows=(("b", ("x",)), ("d", ("x",)))), ("x",), [("a", "c"), ("b", "d")])
        self.check(ring_table(4, shows=(("b", ("x",)), ("d", ("x", "y")))), ("x",), [("a", "c"), ("b", "d")])
        self.check(ring_table(4, shows=(("d", ("x",)),)), ("x",), [("a",), ("b",), ("c",), ("d",)])
        self.check(full_table(4, shows=(("a", ("x",)), ("c", ("x",)))), ("x",), [("a", "c"), ("b", "d")])

    def test_the_fewest_of_all_partings(self):
        found = set()
        for table, marks in cases(104, 150):
            if len(table.states) <= 6:
                partings = [parts for parts in partitions(list(table.states)) if is_parting(table, marks, parts)]
                fewest = min(partings, key=len)
                self.assertEqual([len(parts) for parts in partings].count(len(fewest)), 1)
                found.add((len(table.states), len(fewest)))
                self.check(table, marks, sorted(tuple(sorted(part)) for part in fewest))
        self.assertGreater(len(found), 12)

    def test_of_seven_and_eight_states(self):
        for table, marks in cases(105, 200):
            told = classes(table, marks)
            self.assertEqual(sorted(state for part in told for state in part), list(table.states))
            self.assertEqual(told, sorted(tuple(sorted(part)) for part in told))
            self.assertTrue(is_parting(table, marks, told))
            # No two classes can be one: states of two are told apart by what follows what.
            for one, other in itertools.combinations([part[0] for part in told], 2):
                self.assertFalse(is_parting(table, marks, merged(table, marks, one, other)))

    def test_all_of_a_class_follow_one_another(self):
        for table, marks in cases(106, 100):
            there = follows(table, marks)
            for part in classes(table, marks):
                for pair in itertools.product(part, repeat=2):
                    self.assertIn(pair, there)

    def test_the_askers_own(self):
        told = classes(sample_table(), ("x",))
        told.clear()
        self.check(sample_table(), ("x",), [("a",), ("b",), ("c",)])


def merged(table, marks, one, other):
    """The classes with those of these two states put together."""
    parts = [list(part) for part in classes(table, marks)]
    both = [part for part in parts if one in part or other in part]
    return [part for part in parts if part not in both] + [both[0] + both[1]]


class PressedTest(unittest.TestCase):

    def check(self, table, marks, told):
        copy = Table(table.states, table.moves, begins=table.begins, shows=table.shows)
        found = pressed(table, marks)
        self.assertEqual(found, told)
        self.assertIs(type(found), Table)
        self.assertEqual(kinds([found.states, found.moves, found.begins, found.shows]),
                         kinds([told.states, told.moves, told.begins, told.shows]))
        self.assertEqual(pressed(marks=marks, table=table), told)
        self.assertEqual(table, copy)

    def test_by_the_words(self):
        table = sample_table()
        self.check(table, (), Table(("a",), (("a", "a"),), begins=("a",)))
        self.check(table, ("x",), Table(table.states, table.moves, begins=table.begins,
                                        shows=(("a", ("x",)), ("c", ("x",)))))
        self.check(table, ("x", "y"), table)
        self.check(table, ("y", "z"), Table(table.states, table.moves, begins=table.begins, shows=(("c", ("y",)),)))
        self.check(ring_table(4, shows=(("b", ("x", "y")), ("d", ("x",)))), ("x",),
                   Table(("a", "b"), (("a", "b"), ("b", "a")), begins=("a",), shows=(("b", ("x",)),)))

    def test_begins_and_moves_of_any_of_a_class(self):
        table = Table(("a", "b", "c", "d"), (("a", "c"), ("b", "d"), ("c", "c"), ("d", "c")), begins=("b", "d"),
                      shows=(("c", ("x",)), ("d", ("x",))))
        self.check(table, ("x",), Table(("a", "c"), (("a", "c"), ("c", "c")), begins=("a", "c"), shows=(("c", ("x",)),)))

    def test_by_hand(self):
        for table, marks in cases(107, 200):
            parts = classes(table, marks)
            first = {state: part[0] for part in parts for state in part}
            shows = tuple((part[0], seen(table, marks, part[0])) for part in parts if seen(table, marks, part[0]))
            told = Table(tuple(part[0] for part in parts),
                         tuple(sorted({(first[one], first[other]) for one, other in table.moves})),
                         begins=tuple(sorted({first[state] for state in table.begins})), shows=shows)
            self.check(table, marks, told)

    def test_the_same_rows_are_shown(self):
        for table, marks in cases(108, 100):
            small = pressed(table, marks)
            for steps in range(5):
                rows = shown_rows(table, marks, steps)
                self.assertEqual(shown_rows(small, marks, steps), rows)
            self.assertEqual(classes(small, marks), [(state,) for state in small.states])
            self.assertEqual(pressed(small, marks), small)


class ShownRowsTest(unittest.TestCase):

    def check(self, table, marks, steps, told):
        rows = shown_rows(table, marks, steps)
        self.assertEqual((rows, kinds(rows)), (told, kinds(told)))
        self.assertEqual(shown_rows(steps=steps, marks=marks, table=table), told)
        self.assertEqual(len({id(row) for row in rows}), len(rows))

    def test_by_the_words(self):
        table = sample_table()
        self.check(table, ("x", "y"), 1, [[("x",)], [("x", "y")]])
        self.check(table, ("x",), 2, [[("x",), ()], [("x",), ("x",)]])
        self.check(table, ("y",), 2, [[(), ()], [("y",), ("y",)]])
        self.check(table, (), 3, [[(), (), ()]])
        self.check(table, ("v", "w"), 2, [[(), ()]])
        self.check(table, ("x",), 0, [[]])

    def test_beside_all_runs(self):
        for table, marks in cases(109, 150):
            for steps in range(1, 6):
                rows = [[seen(table, marks, state) for state, in walk] for walk in walks_by_runs(table, 1, steps)]
                told = sorted(rows)
                self.check(table, marks, steps, [row for at, row in enumerate(told) if row not in told[:at]])

    def test_forty_steps_and_many_rows(self):
        self.check(full_table(4), ("x",), 40, [[()] * 40])
        self.check(ring_table(3, shows=(("b", ("x",)),)), ("x",), 40,
                   [[("x",) if at % 3 == 1 else () for at in range(40)]])
        table = full_table(4, shows=(("a", ("x",)), ("b", ("x",))))
        told = [list(row) for row in itertools.product(((), ("x",)), repeat=8)]
        self.check(table, ("x",), 8, told)

    def test_the_askers_own(self):
        told = shown_rows(sample_table(), ("x",), 2)
        told[0].append(None)
        told.pop()
        self.check(sample_table(), ("x",), 2, [[("x",), ()], [("x",), ("x",)]])


class ShowsFollowsTest(unittest.TestCase):

    def check(self, told, table, marks, thing):
        copy = deep_copy(thing)
        self.assertIs(shows_follows(table, marks, thing), told, thing)
        self.assertIs(shows_follows(thing=thing, marks=marks, table=table), told)
        self.assertEqual((thing, kinds(thing)), (copy, kinds(copy)))

    def test_told_pairs_in_any_order_and_twice(self):
        chance = random.Random(110)
        for table, marks in cases(110, 100):
            told = follows(table, marks)
            self.check(True, table, marks, told)
            self.check(True, table, marks, told[::-1])
            self.check(True, table, marks, told + told[:2])
            self.check(True, table, marks, deep_copy(chance.sample(told, len(told))))
            self.check(True, table, marks, [])
            self.check(True, table, marks, [(state, state) for state in table.states])
            self.check(False, table, marks, tuple(told))

    def test_all_lists_of_few_states(self):
        chance = random.Random(111)
        found = []
        for _ in range(20):
            table = random_table(chance, 3, 2)
            pairs = list(itertools.product(table.states, repeat=2))
            for _ in range(60):
                some = chance.sample(pairs, chance.randint(0, len(pairs)))
                found.append(all(stays(table, ("x",), pair, some) for pair in some))
                self.check(found[-1], table, ("x",), some)
        self.assertGreater(found.count(True), 100)
        self.assertGreater(found.count(False), 300)

    def test_fewer_that_keep_together(self):
        # All pairs from which some are come to, of those told.
        chance = random.Random(112)
        fewer = 0
        for table, marks in cases(112, 150):
            told = follows(table, marks)
            some = [chance.choice(told)]
            for pair in some:
                for one in nexts(table, pair[0]):
                    others = [(one, other) for other in nexts(table, pair[1]) if (one, other) in told]
                    if not set(others) & set(some):
                        some.append(chance.choice(others))
            fewer += len(some) < len(told)
            self.check(True, table, marks, some)
            for at in range(len(some)):
                left = some[:at] + some[at + 1:]
                self.check(all(stays(table, marks, pair, left) for pair in left), table, marks, left)
        self.assertGreater(fewer, 50)

    def test_a_pair_more_that_does_not_stay(self):
        for table, marks in cases(113, 100):
            told = follows(table, marks)
            for pair in itertools.product(table.states, repeat=2):
                self.check(pair in told, table, marks, told + [pair])
                self.check(pair in told, table, marks, [pair] + told)

    def test_spoilt_in_each_way(self):
        table, marks = sample_table(), ("x",)
        told = follows(table, marks)
        for odd in (("a",), ("a", "a", "a"), ["a", "a"], ("a", "z"), ("z", "a"), ("a", ""), ("a", None), (None, "a"),
                    ("a", ("a",)), (("a",), "a"), (["a"], "a"), "aa", "a", (), [], None, 0, True, ("a", 1)):
            self.check(False, table, marks, told + [odd])
            self.check(False, table, marks, [odd] + told)
        self.check(False, table, marks, [told])
        self.check(False, table, marks, as_list(tuple(told)))

    def test_things_of_any_kind(self):
        table, marks = sample_table(), ("x",)
        for odd in ODD_THINGS + (True, False):
            if odd != []:
                self.check(False, table, marks, odd)
            if odd != "a":
                for thing in changed([("a", "a"), ("c", "a")], lambda one, odd=odd: odd):
                    self.check(thing == [], table, marks, thing)

    def test_of_many_entries(self):
        table = full_table(4)
        told = follows(table, ("x",))
        self.check(True, table, ("x",), (told * 70)[:1100])
        self.check(False, table, ("x",), (told * 70)[:1099] + [("a", "z")])


if __name__ == "__main__":
    unittest.main()
