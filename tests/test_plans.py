"""Plans: [12], [1] (c) and (e), and [2] and [3] as far as they speak of them."""

import itertools
import random
import unittest

from manyruns.bodies import parts_of
from manyruns.errors import BadKind, TooGreat
from manyruns.likes import follows
from manyruns.plans import answer_by, places_of, plan_of, shows_plan
from manyruns.rules import PLACES
from manyruns.sets import least_unanswered, shows_answered
from manyruns.tables import Table
from tests.handanswers import (behind_by_words, beside, firsts_by_words, kept, leads, many_by_hand, random_saying,
                               side_by, values_by_hand)
from tests.helpers import (ODD_THINGS, as_list, backs_of, changed, deep_copy, full_table, kinds, random_table,
                           ring_table, sample_table, walks_by_runs)

PQ = (("all", "p"), ("some", "q"))
ALIKE = ("alike", "p", "q", ("x",))
P = ("has", "p", "x")
Q = ("has", "q", "x")
# At each step q has told, the step ahead, whether p will show x.
FORETELL = ("and", ("or", P, ("not", ("ahead", Q))), ("not", ("and", P, ("ahead", ("not", Q)))))
ASKS = (places_of, plan_of, lambda table, saying, **more: shows_plan(table, saying, [], **more),
        lambda table, saying, **more: answer_by(table, saying, [], [], **more))


def many_places(table, saying, ahead):
    return len(table.states) ** (len(saying[0]) + ahead) * 2 ** backs_of(saying[1])


def cases(seed, many, most=PLACES, states=4):
    """Tables, sayings of one asked run, and how far ahead is seen."""
    chance, found = random.Random(seed), 0
    while found < many:
        table = random_table(chance, states, 2)
        saying = random_saying(chance, chance.choice((("all", "some"), ("all", "some"), ("all", "some", "some"))),
                               chance.randint(1, 3))
        ahead = chance.choice((0, 1, 2))
        if many_places(table, saying, ahead) <= most:
            found += 1
            yield table, saying, ahead


def windows_by_hand(table, ahead):
    return [window for window in itertools.product(table.states, repeat=1 + ahead)
            if all(move in table.moves for move in zip(window, window[1:]))]


def nexts_by_hand(table, window):
    return sorted(window[1:] + (other,) for one, other in table.moves if one == window[-1])


def first_places_by_words(table, saying, window):
    return sorted((window, *side) for side in firsts_by_words(table, saying, window[:1]))


def places_behind_by_words(table, saying, place, window):
    return sorted((window, *side) for side in behind_by_words(table, saying, [place[1:]], window[:1]))


def all_places_by_hand(table, saying, ahead, most):
    """All places at a step of walks of so many steps at most, and whether no new ones came in the last step."""
    come = fresh = set()
    for steps in range(1, most + 1):
        fresh = set()
        for walk in walks_by_runs(table, len(saying[0]), steps):
            if kept(table, saying, walk):
                fresh.add((walk[-1], values_by_hand(table, saying, walk)))
        fresh, come = fresh - come, come | fresh
    places = {(window, states[1:], values) for states, values in come for window in windows_by_hand(table, ahead)
              if window[0] == states[0]}
    return places, not fresh


def sink_by_hand(table, saying, places):
    """What is left of these places, when each that can't go on is taken away, one by one."""
    left = set(places)
    while True:
        sunk = [place for place in left
                if not all(set(places_behind_by_words(table, saying, place, window)) & left
                           for window in nexts_by_hand(table, place[0]))]
        if not sunk:
            return sorted(left)
        left.remove(sunk[0])


def plan_by_hand(table, saying, ahead, left):
    """The plan by the places that stay together, row by row; None."""
    rows, come = {}, []
    for window in windows_by_hand(table, ahead):
        if window[0] in table.begins:
            places = [place for place in first_places_by_words(table, saying, window) if place in left]
            if not places:
                return None
            rows[((), window)] = places[0][1]
            come.append(places[0])
    for place in come:
        for window in nexts_by_hand(table, place[0]):
            if (place, window) not in rows:
                other = [one for one in places_behind_by_words(table, saying, place, window) if one in left][0]
                rows[(place, window)] = other[1]
                come.append(other)
    firsts = sorted((place, window, states) for (place, window), states in rows.items() if not place)
    return firsts + sorted((place, window, states) for (place, window), states in rows.items() if place)


def is_row_by_words(table, saying, ahead, row):
    def are_states(thing, many):
        return (type(thing) is tuple and len(thing) == many
                and all(type(state) is str and state in table.states for state in thing))

    def is_window(thing):
        return are_states(thing, 1 + ahead) and thing in windows_by_hand(table, ahead)

    def is_place(thing):
        return (type(thing) is tuple and len(thing) == 3 and is_window(thing[0]) and are_states(thing[1], beside(saying))
                and type(thing[2]) is tuple and [type(one) for one in thing[2]] == [bool] * len(parts_of(saying[1])))

    return (type(row) is tuple and len(row) == 3 and (row[0] == () or is_place(row[0]))
            and is_window(row[1]) and are_states(row[2], beside(saying)))


def is_plan_by_words(table, saying, ahead, thing):
    """Whether it's a plan, straight by the words."""
    if type(thing) is not list or not all(is_row_by_words(table, saying, ahead, row) for row in thing):
        return False
    keys = [(place, window) for place, window, _ in thing]
    if len(set(keys)) != len(keys):
        return False
    rows = {(place, window): states for place, window, states in thing}
    come = []
    for window in windows_by_hand(table, ahead):
        if window[0] in table.begins:
            come += [None] if ((), window) not in rows else [
                place for place in first_places_by_words(table, saying, window) if place[1] == rows[((), window)]
            ] or [None]
    for place in come:
        if place is None or not place[2][-1]:
            return False
        for window in nexts_by_hand(table, place[0]):
            states = rows.get((place, window))
            found = [one for one in places_behind_by_words(table, saying, place, window) if one[1] == states] or [None]
            if found[0] not in come:
                come += found
    return True


def answer_by_hand(table, saying, plan, run, ahead):
    """The walk by the plan's rows: each place is that of the walk so far."""
    walk, place = [], ()
    for at in range(len(run) - ahead):
        window = tuple(run[at:at + ahead + 1])
        walk.append([states for one, other, states in plan if (one, other) == (place, window)][0])
        asked = [(state,) for state in run[:at + 1]]
        place = (window, walk[-1], values_by_hand(table, saying, side_by(asked, walk)))
    return walk


def runs_of(table, steps):
    return [[state for state, in walk] for walk in walks_by_runs(table, 1, steps)]


class PlacesOfTest(unittest.TestCase):

    def check(self, table, saying, ahead, told):
        places = places_of(table, saying, ahead=ahead)
        self.assertEqual((places, kinds(places)), (told, kinds(told)))
        self.assertEqual(places_of(ahead=ahead, saying=saying, table=table), told)
        if ahead == 0:
            self.assertEqual(places_of(table, saying), told)

    def test_by_the_words(self):
        table, true = sample_table(), (True,)
        self.check(table, (PQ, ALIKE), 0, [(("a",), ("a",), true), (("b",), ("b",), true), (("c",), ("a",), true),
                                           (("c",), ("c",), true)])
        self.check(table, (PQ, ("not", ALIKE)), 0, [])
        self.check(table, (PQ, ("has", "q", "y")), 1, [(window, ("c",), true) for window in table.moves])
        self.check(table, (PQ, ("has", "q", "y")), 2,
                   [(window, ("c",), true) for window in windows_by_hand(table, 2)])

    def test_a_place_that_does_not_go_on_is_sunk(self):
        # q in c is alike as long as p is in a, but not where p goes on to b.
        table = Table(("a", "b", "c"), (("a", "a"), ("a", "b"), ("b", "b"), ("c", "c")), begins=("a", "c"),
                      shows=(("b", ("x",)),))
        told = [(("a",), ("a",)), (("b",), ("b",)), (("c",), ("a",)), (("c",), ("c",))]
        self.check(table, (PQ, ALIKE), 0, [(*pair, (True,)) for pair in told])
        told = [(("a", "a"), ("a",)), (("a", "b"), ("a",)), (("b", "b"), ("b",)), (("c", "c"), ("a",)),
                (("c", "c"), ("c",))]
        self.check(table, (PQ, ALIKE), 1, [(*pair, (True,)) for pair in told])

    def test_a_place_that_no_kept_walk_comes_to_is_none(self):
        table = ring_table(2)
        self.check(table, (PQ, ALIKE), 0, [(("a",), ("a",), (True,)), (("b",), ("b",), (True,))])

    def test_beside_a_sinking_by_hand(self):
        steady, found = 0, {0: 0, 1: 0, 2: 0}
        for table, saying, ahead in cases(61, 150, 256, 3):
            places, all_come = all_places_by_hand(table, saying, ahead, 4 if len(saying[0]) == 2 else 3)
            if all_come:
                steady += 1
                told = sink_by_hand(table, saying, places)
                found[ahead] += 0 < len(told) < len(places)
                self.check(table, saying, ahead, told)
        self.assertGreater(steady, 75)
        self.assertTrue(all(found.values()), found)

    def test_they_stay_together(self):
        for table, saying, ahead in cases(62, 150):
            told = places_of(table, saying, ahead=ahead)
            self.assertEqual(told, sorted(set(told)))
            self.assertEqual(sink_by_hand(table, saying, told), told)

    def test_the_askers_own(self):
        table = full_table(2)
        told = places_of(table, (PQ, ALIKE))
        copy = deep_copy(told)
        told.clear()
        self.assertEqual(places_of(table, (PQ, ALIKE)), copy)
        self.assertEqual(table, full_table(2))


class PlanOfTest(unittest.TestCase):

    def check(self, table, saying, ahead, told):
        plan = plan_of(table, saying, ahead=ahead)
        self.assertEqual((plan, kinds(plan)), (told, kinds(told)))
        self.assertEqual(plan_of(saying=saying, ahead=ahead, table=table), told)
        if ahead == 0:
            self.assertEqual(plan_of(table, saying), told)
        self.assertIs(shows_plan(table, saying, plan, ahead=ahead), told is not None)

    def test_by_the_words(self):
        table, true = sample_table(), (True,)
        a, b, c = ((("a",), ("a",), true), (("b",), ("b",), true), (("c",), ("a",), true))
        self.check(table, (PQ, ALIKE), 0, [
            ((), ("a",), ("a",)), ((), ("c",), ("a",)), (a, ("a",), ("a",)), (a, ("b",), ("b",)), (b, ("a",), ("a",)),
            (b, ("c",), ("a",)), (c, ("c",), ("a",))])
        self.check(table, (PQ, ("not", ALIKE)), 0, None)
        self.check(ring_table(2), (PQ, ALIKE), 1, [
            ((), ("a", "b"), ("a",)), ((("a", "b"), ("a",), true), ("b", "a"), ("b",)),
            ((("b", "a"), ("b",), true), ("a", "b"), ("a",))])

    def test_none_where_a_first_window_has_none(self):
        # From a alone there's a plan, not from c.
        table = Table(("a", "b", "c"), (("a", "a"), ("b", "b"), ("c", "b")), begins=("a", "c"),
                      shows=(("b", ("x",)), ("c", ("x", "y"))))
        saying = (PQ, ("and", ("or", ("not", P), ("has", "q", "y")), ("alike", "p", "q", ("x",))))
        self.assertEqual([place[0] for place in places_of(table, saying)], [("a",)])
        self.check(table, saying, 0, None)

    def test_what_is_seen_ahead_is_enough_just_from_so_many_steps_on(self):
        table = full_table(2, shows=(("b", ("x",)),))
        told = [plan_of(table, (PQ, FORETELL), ahead=ahead) is None for ahead in (0, 1, 2)]
        self.assertEqual(told, [True, False, False])
        self.assertIs(least_unanswered(table, (PQ, FORETELL)), None)
        # Where p is two steps on, q has to have begun.
        table = Table(("a", "b", "c", "d"), (("a", "b"), ("b", "c"), ("b", "d"), ("c", "c"), ("d", "d")),
                      begins=("a", "c", "d"), shows=(("a", ("y",)), ("b", ("y",)), ("d", ("x",))))
        saying = (PQ, ("and", ("not", ("has", "q", "y")), ("or", ("has", "p", "y"), ALIKE)))
        told = [plan_of(table, saying, ahead=ahead) is None for ahead in (0, 1, 2)]
        self.assertEqual(told, [True, True, False])
        self.assertIn(((), ("a", "b", "d"), ("d",)), plan_of(table, saying, ahead=2))
        self.assertIs(least_unanswered(table, saying), None)

    def test_row_by_row(self):
        none = 0
        for table, saying, ahead in cases(63, 200):
            told = plan_by_hand(table, saying, ahead, places_of(table, saying, ahead=ahead))
            none += told is None
            self.check(table, saying, ahead, told)
        self.assertTrue(30 < none < 170, none)

    def test_where_there_is_a_plan_all_are_answered(self):
        planned = 0
        for table, saying, ahead in cases(64, 300):
            if many_by_hand(table, saying) <= 1024:
                plan, walk = plan_of(table, saying, ahead=ahead), least_unanswered(table, saying)
                planned += plan is not None
                self.assertTrue(plan is None or walk is None)
        self.assertGreater(planned, 100)

    def test_a_plan_that_looks_ahead_by_none_is_a_paper_of_sets(self):
        shown = 0
        for table, saying, _ in cases(65, 150):
            if many_by_hand(table, saying) <= 1024 and plan_of(table, saying) is not None:
                come = {(place[0], (place[1:],)) for place, _, _ in plan_of(table, saying) if place}
                self.assertIs(shows_answered(table, saying, sorted(come)), True)
                shown += 1
        self.assertGreater(shown, 40)

    def test_where_one_looks_further_ahead_there_is_a_plan_too(self):
        for table, saying, ahead in cases(66, 200):
            if plan_of(table, saying, ahead=ahead) is not None:
                for more in range(ahead + 1, 3):
                    if many_places(table, saying, more) <= PLACES:
                        self.assertIsNotNone(plan_of(table, saying, ahead=more))

    def test_the_askers_own(self):
        table = full_table(2)
        told = plan_of(table, (PQ, ALIKE))
        copy = deep_copy(told)
        told.clear()
        self.assertEqual(plan_of(table, (PQ, ALIKE)), copy)


class FollowsTest(unittest.TestCase):

    def test_states_follow_just_where_plans_of_being_alike_stay(self):
        chance = random.Random(67)
        for _ in range(100):
            table = random_table(chance, 6, 3)
            marks = tuple(sorted(chance.sample("xyz", chance.randint(1, 3))))
            every = Table(table.states, table.moves, begins=table.states, shows=table.shows)
            told = places_of(every, (PQ, ("alike", "p", "q", marks)))
            self.assertEqual(told, [((one,), (other,), (True,)) for one, other in follows(table, marks)])
            # From fewer begins, those that are come to alike alone.
            for (one,), (other,), _ in places_of(table, (PQ, ("alike", "p", "q", marks))):
                self.assertIn((one, other), follows(table, marks))


class ShowsPlanTest(unittest.TestCase):

    def check(self, told, table, saying, ahead, thing):
        copy = deep_copy(thing)
        self.assertIs(shows_plan(table, saying, thing, ahead=ahead), told, thing)
        self.assertIs(shows_plan(ahead=ahead, thing=thing, saying=saying, table=table), told)
        if ahead == 0:
            self.assertIs(shows_plan(table, saying, thing), told)
        self.assertEqual((thing, kinds(thing)), (copy, kinds(copy)))

    def by_words(self, table, saying, ahead, thing):
        told = is_plan_by_words(table, saying, ahead, thing)
        self.check(told, table, saying, ahead, thing)
        return told

    def plans(self, seed, many, most=PLACES):
        for table, saying, ahead in cases(seed, many, most):
            plan = plan_of(table, saying, ahead=ahead)
            if plan is not None:
                yield table, saying, ahead, plan

    def test_told_plans_in_any_order(self):
        chance = random.Random(68)
        for table, saying, ahead, plan in self.plans(68, 150):
            self.check(True, table, saying, ahead, plan)
            self.check(True, table, saying, ahead, plan[::-1])
            self.check(True, table, saying, ahead, deep_copy(chance.sample(plan, len(plan))))
            self.check(False, table, saying, ahead, tuple(plan))
            self.check(False, table, saying, ahead, plan + plan[:1])
            self.check(False, table, saying, ahead, plan + plan[-1:])

    def test_plans_of_more_or_fewer_steps_ahead(self):
        for table, saying, ahead, plan in self.plans(69, 60, 128):
            for other in (0, 1, 2):
                if many_places(table, saying, other) <= PLACES:
                    self.by_words(table, saying, other, plan)

    def test_others_that_answer_all(self):
        # Instead of the first states any that lead to places that stay.
        chance = random.Random(70)
        others = 0
        for table, saying, ahead, plan in self.plans(70, 150):
            left = places_of(table, saying, ahead=ahead)
            rows, come = [], []
            for window in windows_by_hand(table, ahead):
                if window[0] in table.begins:
                    places = [one for one in first_places_by_words(table, saying, window) if one in left]
                    come.append(chance.choice(places))
                    rows.append(((), window, come[-1][1]))
            for at, place in enumerate(come):
                for window in nexts_by_hand(table, place[0]) if place not in come[:at] else ():
                    places = [one for one in places_behind_by_words(table, saying, place, window) if one in left]
                    come.append(chance.choice(places))
                    rows.append((place, window, come[-1][1]))
            others += sorted(rows) != plan
            self.check(True, table, saying, ahead, chance.sample(rows, len(rows)))
        self.assertGreater(others, 20)

    def test_a_row_left_out(self):
        for table, saying, ahead, plan in self.plans(71, 80):
            for at in range(len(plan)):
                self.check(False, table, saying, ahead, plan[:at] + plan[at + 1:])
            self.check(False, table, saying, ahead, [])

    def test_rows_to_which_nothing_comes(self):
        chance = random.Random(72)
        for table, saying, ahead, plan in self.plans(72, 80):
            windows = windows_by_hand(table, ahead)
            tuples = list(itertools.product(table.states, repeat=beside(saying)))
            for _ in range(20):
                values = tuple(chance.choice((True, False)) for _ in parts_of(saying[1]))
                place = chance.choice(((), (chance.choice(windows), chance.choice(tuples), values)))
                row = (place, chance.choice(windows), chance.choice(tuples))
                told = (place, row[1]) not in [(one, window) for one, window, _ in plan]
                self.check(told, table, saying, ahead, plan + [row])
                self.check(told, table, saying, ahead, [row] + plan)

    def test_states_changed_in_each_row(self):
        told = []
        for table, saying, ahead, plan in self.plans(73, 100, 128):
            for at, (place, window, _) in enumerate(plan[:6]):
                for states in itertools.product(table.states, repeat=beside(saying)):
                    thing = plan[:at] + [(place, window, states)] + plan[at + 1:]
                    told.append(self.by_words(table, saying, ahead, thing))
        self.assertGreater(told.count(True), 100)
        self.assertGreater(told.count(False), 100)

    def test_the_body_false_at_a_step_come_to(self):
        table = full_table(2, shows=(("b", ("x",)),))
        place = (("a",), ("a",), (True,))
        plan = plan_of(table, (PQ, ALIKE))
        self.assertIn((place, ("b",), ("b",)), plan)
        wrong = [(one, window, ("a",) if (one, window) == (place, ("b",)) else states) for one, window, states in plan]
        self.check(False, table, (PQ, ALIKE), 0, wrong)
        # Not by rows for what would come behind it either.
        behind = (("b",), ("a",), (False,))
        self.check(False, table, (PQ, ALIKE), 0, wrong + [(behind, (state,), (state,)) for state in "ab"])

    def test_spoilt_in_each_way(self):
        for table, saying, ahead, plan in self.plans(74, 40, 128):
            (window, states, values), nexts, others = plan[-1]
            places = ((window, states, values + (True,)), (window, states, values[1:]), (window, states), (window,),
                      (window, states, values, values), (window + window[-1:], states, values),
                      (window[1:], states, values), (window, states[1:], values), (window, states + ("a",), values),
                      (("z",) * len(window), states, values), (window, ("z",) * len(states), values),
                      (list(window), states, values), (window, list(states), values), (window, states, list(values)),
                      (window, states, (1,) * len(values)), (window, states, (None,) * len(values)),
                      [window, states, values], [], None, False, "", 0, ((),), (states, window), "ab")
            rows = [(place, nexts, others) for place in places]
            rows += [(plan[-1][0], nexts + ("a",), others), (plan[-1][0], nexts[1:], others), (plan[-1][0], (), others),
                     (plan[-1][0], list(nexts), others), (plan[-1][0], ("z",) * len(nexts), others),
                     (plan[-1][0], nexts, others[1:]), (plan[-1][0], nexts, others + ("a",)),
                     (plan[-1][0], nexts, list(others)), (plan[-1][0], nexts, ("z",) * len(others)),
                     (plan[-1][0], nexts, None), (plan[-1][0], nexts), plan[-1] + ((),), list(plan[-1]), (), None]
            for row in rows:
                self.check(False, table, saying, ahead, plan[:-1] + [row])
                self.check(False, table, saying, ahead, [row] + plan)
            # Rows to which nothing comes are looked at, too.
            fresh = (window, states, (False,) * len(values))
            self.check(True, table, saying, ahead, plan + [(fresh, nexts, others)])
            for odd in (others[1:], others + ("a",), list(others), ("z",) * len(others), None, "a", ((),)):
                self.check(False, table, saying, ahead, plan + [(fresh, nexts, odd)])
            for odd in (nexts[1:], nexts + nexts[-1:], list(nexts), ("z",) * len(nexts), None, "a", ((),)):
                self.check(False, table, saying, ahead, plan + [(fresh, odd, others)])
            self.check(False, table, saying, ahead, as_list(tuple(plan)))
            self.check(False, table, saying, ahead, [plan])

    def test_windows_that_no_moves_make(self):
        table = sample_table()
        plan = plan_of(table, (PQ, ALIKE), ahead=1)
        self.check(True, table, (PQ, ALIKE), 1, plan + [((), ("b", "c"), ("b",))])
        self.check(False, table, (PQ, ALIKE), 1, plan + [((), ("b", "b"), ("b",))])
        self.check(True, table, (PQ, ALIKE), 1, plan + [((("a", "b"), ("c",), (False,)), ("b", "c"), ("b",))])
        self.check(False, table, (PQ, ALIKE), 1, plan + [((("a", "c"), ("c",), (False,)), ("b", "c"), ("b",))])

    def test_things_of_any_kind(self):
        for table, saying, ahead, plan in self.plans(75, 12, 64):
            for odd in ODD_THINGS + (True, False):
                self.check(False, table, saying, ahead, odd)
                for thing in changed(plan[-1], lambda one, odd=odd: odd):
                    self.by_words(table, saying, ahead, plan + [thing])
                    self.by_words(table, saying, ahead, plan[:-1] + [thing])


class AnswerByTest(unittest.TestCase):

    def check(self, table, saying, plan, run, ahead, told):
        copies = deep_copy(plan), deep_copy(run)
        walk = answer_by(table, saying, plan, run, ahead=ahead)
        self.assertEqual((walk, kinds(walk)), (told, kinds(told)))
        self.assertEqual(answer_by(ahead=ahead, run=tuple(run), plan=tuple(plan), saying=saying, table=table), told)
        if ahead == 0:
            self.assertEqual(answer_by(table, saying, plan, run), told)
        self.assertEqual((plan, run), copies)

    def test_by_the_words(self):
        table = sample_table()
        for ahead in (0, 1, 2):
            plan = plan_of(table, (PQ, ALIKE), ahead=ahead)
            told = [("a",), ("b",), ("a",), ("a",)]
            self.check(table, (PQ, ALIKE), plan, ["a", "b", "c", "c"], ahead, told[:4 - ahead])

    def test_too_few_steps(self):
        table = sample_table()
        for ahead in (0, 1, 2):
            plan = plan_of(table, (PQ, ALIKE), ahead=ahead)
            for steps in range(ahead + 1):
                self.check(table, (PQ, ALIKE), plan, ["a"] * steps, ahead, [])
            self.check(table, (PQ, ALIKE), plan, ["a"] * (ahead + 1), ahead, [("a",)])

    def test_all_runs_of_few_steps(self):
        planned = 0
        for table, saying, ahead in cases(76, 150):
            plan = plan_of(table, saying, ahead=ahead)
            if plan is not None:
                planned += 1
                for steps in range(1, 6):
                    for run in runs_of(table, steps)[:10]:
                        told = answer_by_hand(table, saying, plan, run, ahead)
                        self.check(table, saying, plan, run, ahead, told)
                        self.assertEqual(len(told), max(0, steps - ahead))
                        walk = side_by([(state,) for state in run], told)
                        self.assertTrue(kept(table, saying, walk))
                        self.assertFalse(told and tuple(zip(*told))[0][0] not in table.begins)
        self.assertGreater(planned, 60)

    def test_runs_of_forty_steps(self):
        chance = random.Random(77)
        for table, saying, ahead in cases(77, 60):
            plan = plan_of(table, saying, ahead=ahead)
            if plan is not None:
                run = [chance.choice(table.begins)]
                while len(run) < 40:
                    run.append(chance.choice([other for one, other in table.moves if one == run[-1]]))
                told = answer_by(table, saying, plan, run, ahead=ahead)
                self.assertEqual(len(told), 40 - ahead)
                for steps in (1, 2, 10, 39):
                    self.check(table, saying, plan, run[:steps], ahead, told[:max(0, steps - ahead)])
                walk = side_by([(state,) for state in run], told)
                self.assertTrue(kept(table, saying, walk))
                for place in range(beside(saying)):
                    others = [states[place] for states in told]
                    self.assertTrue(all(move in table.moves for move in zip(others, others[1:])))

    def test_by_another_plan_than_the_told_one(self):
        table = full_table(3, shows=(("b", ("x",)),))
        rows = []
        for one in "abc":
            mine = "b" if one == "b" else "c"
            rows.append(((), (one,), (mine,)))
            for other in "abc":
                rows.append((((one,), (mine,), (True,)), (other,), ("b" if other == "b" else "c",)))
        self.assertIs(shows_plan(table, (PQ, ALIKE), rows), True)
        self.check(table, (PQ, ALIKE), rows, ["a", "b", "c", "b"], 0, [("c",), ("b",), ("c",), ("b",)])

    def test_foretelling(self):
        table = full_table(2, shows=(("b", ("x",)),))
        plan = plan_of(table, (PQ, FORETELL), ahead=1)
        run = ["a", "b", "b", "a", "b", "a", "a"]
        self.check(table, (PQ, FORETELL), plan, run, 1, [(state,) for state in run[1:]])

    def test_the_askers_own(self):
        table = full_table(2)
        plan = plan_of(table, (PQ, ALIKE))
        told = answer_by(table, (PQ, ALIKE), plan, ["a", "b"])
        copy = deep_copy(told)
        told.append(None)
        self.check(table, (PQ, ALIKE), plan, ["a", "b"], 0, copy)


class RefusedTest(unittest.TestCase):

    def check_refused(self, made, field, told, table, saying, **more):
        for number, ask in enumerate(ASKS):
            with self.subTest(number=number, saying=saying, more=more):
                with self.assertRaises(made.__bases__[0]) as caught:
                    ask(table, saying, **more)
                self.assertIs(type(caught.exception), made)
                self.assertEqual(getattr(caught.exception, field), told)

    def test_sayings_of_other_kinds(self):
        for words, told in ((("all",), "all"), (("all",) * 3, "all"), (("some",), "some"), (("some",) * 2, "some"),
                            (("some", "all"), "ever"), (("some", "all", "all"), "ever")):
            heads = tuple(zip(words, "pqr"))
            for ahead in (0, 1, 2):
                self.check_refused(BadKind, "kind", told, sample_table(), (heads, P), ahead=ahead)
                # Ahead of TooGreat.
                deep = ("ahead", ("ahead", ("ahead", ("ahead", P))))
                self.check_refused(BadKind, "kind", told, ring_table(8), (heads, deep), ahead=ahead)

    def test_two_asked_runs(self):
        saying = ((("all", "p"), ("all", "q"), ("some", "r")), P)
        self.assertEqual(leads(saying), 2)
        for ahead in (0, 1, 2):
            self.check_refused(BadKind, "kind", "answer", sample_table(), saying, ahead=ahead)
            self.check_refused(BadKind, "kind", "answer", ring_table(8), saying, ahead=ahead)

    def test_too_great(self):
        at = 0
        for many, words, backs, ahead in itertools.product(
                range(1, 9), (("all", "some"), ("all", "some", "some")), range(5), (0, 1, 2)):
            body = P
            for _ in range(backs):
                body = ("ever", body)
            table, saying = ring_table(many, shows=(("a", ("x",)),)), (tuple(zip(words, "pqr")), body)
            told = many_places(table, saying, ahead)
            at += told == 512
            if told > 512:
                self.check_refused(TooGreat, "many", told, table, saying, ahead=ahead)
            else:
                for ask in ASKS:
                    ask(table, saying, ahead=ahead)
        self.assertGreater(at, 2)

    def test_ahead_is_left_out_for_none_and_by_name_alone(self):
        table = ring_table(8)
        self.assertIs(shows_plan(table, (PQ, ALIKE), plan_of(table, (PQ, ALIKE))), True)
        self.check_refused(TooGreat, "many", 4096, table, (PQ, ALIKE), ahead=2)
        for ask in (places_of, plan_of):
            with self.assertRaises(TypeError):
                ask(table, (PQ, ALIKE), 1)


if __name__ == "__main__":
    unittest.main()
