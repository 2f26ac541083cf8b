"""Runs that answer: [11], [1] (b) and (e), and [2] and [3] as far as they speak of them."""

import itertools
import random
import unittest

from manyruns.bodies import kind_of, looks_back
from manyruns.errors import BadKind, TooGreat
from manyruns.sets import all_sets, first_answer, least_unanswered, shows_answered, shows_unanswered
from manyruns.sides import least_break
from manyruns.tables import Table
from tests.handanswers import (answers_by_hand, behind_by_words, beside, firsts_by_words, is_side_by_words, kept,
                               leading_walks, leads, many_by_hand, moved, random_cases, side_by, values_by_hand)
from tests.helpers import (ODD_THINGS, as_list, changed, deep_copy, full_table, kinds, random_body, random_table,
                           ring_table, sample_table, walks_by_runs)

SHAPES = (("all", "some"), ("all", "some"), ("all", "all", "some"), ("all", "some", "some"))
PQ = (("all", "p"), ("some", "q"))
ALIKE = ("alike", "p", "q", ("x",))
P = ("has", "p", "x")
Q = ("has", "q", "x")
# A run is to tell ahead what the other will show.
FORETELL = ("and", ("or", P, ("not", ("ahead", Q))), ("not", ("and", P, ("ahead", ("not", Q)))))
ASKS = (lambda table, saying: first_answer(table, saying, [("a",) * leads(saying)]), least_unanswered, all_sets,
        lambda table, saying: shows_unanswered(table, saying, []),
        lambda table, saying: shows_answered(table, saying, []))
HOW_FAR = {1: 5, 2: 3}


def cases(seed, many, most=1024):
    yield from random_cases(random.Random(seed), many, SHAPES, most)


def unanswered_by_hand(table, saying, most):
    """The first walk of the fewest steps, of so many at most, without an answer; None."""
    for steps in range(1, most + 1):
        for walk in leading_walks(table, saying, steps):
            if not answers_by_hand(table, saying, walk):
                return walk
    return None


def set_by_hand(table, saying, walk):
    """The pair of states and few at this walk's last step."""
    few = {(other[-1], values_by_hand(table, saying, side_by(walk, other)))
           for other in answers_by_hand(table, saying, walk)}
    return walk[-1], tuple(sorted(few))


def is_entry_by_words(table, saying, thing):
    if type(thing) is not tuple or len(thing) != 2 or type(thing[0]) is not tuple or type(thing[1]) is not tuple:
        return False
    states, few = thing
    return (len(states) == leads(saying) and all(type(state) is str and state in table.states for state in states)
            and len(few) > 0 and all(is_side_by_words(table, saying, side, beside(saying)) for side in few))


def is_paper_by_words(table, saying, thing):
    """Whether it's a paper that all are answered, straight by the words."""
    if type(thing) is not list or not all(is_entry_by_words(table, saying, entry) for entry in thing):
        return False
    for states in itertools.product(table.begins, repeat=leads(saying)):
        told = firsts_by_words(table, saying, states)
        if not any(entry[0] == states and set(entry[1]) <= told for entry in thing):
            return False
    for states, few in thing:
        for other in moved(table, states):
            told = behind_by_words(table, saying, few, other)
            if not any(entry[0] == other and set(entry[1]) <= told for entry in thing):
                return False
    return True


class FirstAnswerTest(unittest.TestCase):

    def check(self, table, saying, walk, told):
        copy = deep_copy(walk)
        answer = first_answer(table, saying, walk)
        self.assertEqual((answer, kinds(answer)), (told, kinds(told)))
        self.assertEqual(first_answer(walk=tuple(walk), saying=saying, table=table), told)
        self.assertEqual((walk, kinds(walk)), (copy, kinds(copy)))

    def test_by_the_words(self):
        table = sample_table()
        self.check(table, (PQ, ALIKE), [("a",)], [("a",)])
        self.check(table, (PQ, ALIKE), [("c",), ("c",), ("c",)], [("a",), ("a",), ("a",)])
        self.check(table, (PQ, ALIKE), [("a",), ("b",), ("a",)], [("a",), ("b",), ("a",)])
        self.check(table, (PQ, ("has", "q", "y")), [("a",), ("b",)], [("c",), ("c",)])
        self.check(table, (PQ, ("not", ALIKE)), [("a",)], None)
        self.check(table, (PQ, ("ever", ("not", ALIKE))), [("a",), ("b",)], None)
        self.check(table, (PQ, ("or", ALIKE, ("ahead", Q))), [("a",), ("b",)], [("a",), ("a",)])

    def test_none_just_as_long_as_needed(self):
        # The one run has told by its first step what the other shows last.
        table = Table(("a", "b", "c", "d"), (("a", "c"), ("b", "d"), ("c", "c"), ("d", "d")), begins=("a", "b"),
                      shows=(("d", ("x",)),))
        self.check(table, (PQ, ALIKE), [("a",)], [("a",)])
        self.check(table, (PQ, ALIKE), [("b",)], [("a",)])
        self.check(table, (PQ, ALIKE), [("b",), ("d",)], [("b",), ("d",)])

    def test_beside_all_walks_of_each_length(self):
        none = 0
        for table, saying in cases(41, 200):
            for steps in range(1, HOW_FAR[leads(saying)]):
                for walk in leading_walks(table, saying, steps)[:12]:
                    answers = answers_by_hand(table, saying, walk)
                    none += not answers
                    self.check(table, saying, walk, answers[0] if answers else None)
        self.assertGreater(none, 200)

    def test_forty_steps(self):
        table = full_table(3, shows=(("b", ("x",)), ("c", ("x",))))
        walk = [("abc"[at * at % 3],) for at in range(40)]
        self.check(table, (PQ, ALIKE), walk, [("a" if states == ("a",) else "b",) for states in walk])
        ring = ring_table(7, shows=(("g", ("x",)),))
        walk = [("abcdefg"[at % 7],) for at in range(40)]
        self.check(ring, (PQ, ALIKE), walk, walk)
        self.check(ring, (PQ, ("or", ("not", P), ("not", Q))), walk[:6], walk[:6])
        self.check(ring, (PQ, ("or", ("not", P), ("not", Q))), walk[:7], None)

    def test_told_again_and_the_askers_own(self):
        table, walk = sample_table(), [("a",), ("b",)]
        told = first_answer(table, (PQ, ALIKE), walk)
        told.append(None)
        told[0] = None
        self.check(table, (PQ, ALIKE), walk, walk)
        self.assertIsNot(first_answer(table, (PQ, ALIKE), walk), walk)


class LeastUnansweredTest(unittest.TestCase):

    def check(self, table, saying, told):
        walk = least_unanswered(table, saying)
        self.assertEqual((walk, kinds(walk)), (told, kinds(told)))
        self.assertEqual(least_unanswered(saying=saying, table=table), told)
        self.assertIs(shows_unanswered(table, saying, walk), walk is not None)

    def test_by_the_words(self):
        table = sample_table()
        self.check(table, (PQ, ALIKE), None)
        self.check(table, (PQ, ("not", ALIKE)), [("a",)])
        self.check(table, (PQ, ("or", ALIKE, ("has", "p", "y"))), None)
        self.check(table, (PQ, ("and", ("has", "q", "y"), P)), [("a",), ("b",)])
        self.check(table, (PQ, ("not", ("ahead", P))), [("a",), ("a",)])

    def test_far_ahead(self):
        for many in range(2, 8):
            table = ring_table(many, shows=(("abcdefg"[many - 1], ("x",)),))
            self.check(table, (PQ, ("not", ("and", P, Q))), [(state,) for state in table.states])

    def test_beside_all_walks_of_each_length(self):
        found = []
        for table, saying in cases(42, 250):
            most = HOW_FAR[leads(saying)]
            told = unanswered_by_hand(table, saying, most)
            walk = least_unanswered(table, saying)
            found.append(walk)
            if told is None and walk is not None:
                self.assertGreater(len(walk), most)
            else:
                self.check(table, saying, told)
        self.assertGreater(found.count(None), 50)
        self.assertGreater(len([walk for walk in found if walk and len(walk) > 1]), 20)

    def test_told_true_just_where_all_walks_have_answers(self):
        # One of more steps has answers only where its beginnings have.
        for table, saying in cases(43, 60):
            if least_unanswered(table, saying) is None:
                for walk in leading_walks(table, saying, HOW_FAR[leads(saying)])[:40]:
                    self.assertIsNotNone(first_answer(table, saying, walk))

    def test_the_first_of_as_many_steps(self):
        table = Table(("a", "b", "c", "d"), (("a", "b"), ("a", "c"), ("b", "d"), ("c", "d"), ("d", "d")), begins=("a",),
                      shows=(("d", ("x",)),))
        self.check(table, (PQ, ("not", ("and", P, Q))), [("a",), ("b",), ("d",)])

    def test_one_run_asked_for_besides_of_which_nothing_is_told(self):
        chance = random.Random(44)
        broken = 0
        for _ in range(300):
            table, body = random_table(chance, 3, 2), random_body(chance, ["p"], 3)
            if many_by_hand(table, (PQ, body)) <= 1024:
                told = least_break(table, ((("all", "p"),), body))
                broken += told is not None
                self.check(table, (PQ, body), told)
        self.assertGreater(broken, 100)


class AllSetsTest(unittest.TestCase):

    def test_by_the_words(self):
        table = sample_table()
        true = (True,)
        self.assertEqual(all_sets(table, (PQ, ("has", "q", "y"))),
                         [((state,), ((("c",), true),)) for state in "abc"])
        self.assertEqual(all_sets(table, (PQ, ("not", ALIKE))), [(("a",), ()), (("b",), ()), (("c",), ())])
        told = all_sets(table, (PQ, ("has", "p", "x")))
        every = ((("a",), true), (("b",), true), (("c",), true))
        self.assertEqual(told, [(("a",), ()), (("a",), every), (("a",), every[::2]), (("b",), ()), (("c",), ()),
                                (("c",), every), (("c",), every[::2])])

    def test_beside_all_walks(self):
        steady = bare = 0
        for table, saying in cases(45, 200):
            told = all_sets(table, saying)
            self.assertEqual(told, sorted(set(told)))
            self.assertEqual(all_sets(saying=saying, table=table), told)
            come, fresh = set(), set()
            for steps in range(1, HOW_FAR[leads(saying)] + 1):
                fresh = {set_by_hand(table, saying, walk) for walk in leading_walks(table, saying, steps)} - come
                come |= fresh
            self.assertLessEqual(come, set(told))
            # No new ones in the last step: then none will come at all.
            if not fresh:
                steady += 1
                bare += any(not few for _, few in told)
                self.assertEqual(told, sorted(come))
        self.assertGreater(steady, 100)
        self.assertGreater(bare, 30)

    def test_bare_just_where_one_is_unanswered(self):
        for table, saying in cases(46, 150):
            bare = [few for _, few in all_sets(table, saying) if few == ()]
            self.assertEqual(bare != [], least_unanswered(table, saying) is not None)

    def test_kinds_and_the_askers_own(self):
        table = full_table(2, shows=(("b", ("x",)),))
        told = all_sets(table, (PQ, ALIKE))
        self.assertEqual(told, [(("a",), ((("a",), (True,)),)), (("b",), ((("b",), (True,)),))])
        copy = deep_copy(told)
        self.assertEqual(kinds(told), kinds([(("a",), ((("a",), (True,)),))] * 2))
        told.pop()
        told[0] = None
        self.assertEqual(all_sets(table, (PQ, ALIKE)), copy)
        self.assertEqual(table, full_table(2, shows=(("b", ("x",)),)))


class ShowsUnansweredTest(unittest.TestCase):

    def check(self, told, table, saying, thing):
        copy = deep_copy(thing)
        self.assertIs(shows_unanswered(table, saying, thing), told, thing)
        self.assertIs(shows_unanswered(thing=thing, saying=saying, table=table), told)
        self.assertEqual(kinds(thing), kinds(copy))

    def test_all_walks(self):
        for table, saying in cases(47, 60):
            for steps in range(1, HOW_FAR[leads(saying)]):
                for walk in leading_walks(table, saying, steps)[:20]:
                    self.check(not answers_by_hand(table, saying, walk), table, saying, walk)
                    self.check(False, table, saying, tuple(walk))

    def test_walks_that_go_on_behind_one_without_answers(self):
        table = sample_table()
        saying = (PQ, ("and", ("has", "q", "y"), P))
        self.check(False, table, saying, [("a",)])
        self.check(False, table, saying, [("a",)] * 40)
        self.check(True, table, saying, [("a",), ("b",)])
        self.check(True, table, saying, [("a",), ("b",)] + [("a",)] * 38)

    def test_no_walks(self):
        table, saying = sample_table(), (PQ, ("not", ALIKE))
        walk = [("a",), ("b",), ("c",)]
        self.check(True, table, saying, walk)
        self.check(False, table, saying, walk[1:])
        self.check(False, table, saying, walk + [("a",)])
        self.check(False, table, saying, [states * 2 for states in walk])
        self.check(False, table, saying, as_list(tuple(walk)))
        for odd in ODD_THINGS + (True, False, "d", ["a"], walk):
            if odd not in ("a", walk):
                for thing in changed(walk, lambda one, odd=odd: odd):
                    self.check(False, table, saying, thing)


class ShowsAnsweredTest(unittest.TestCase):

    def check(self, told, table, saying, thing):
        copy = deep_copy(thing)
        self.assertIs(shows_answered(table, saying, thing), told, thing)
        self.assertIs(shows_answered(thing=thing, saying=saying, table=table), told)
        self.assertEqual((thing, kinds(thing)), (copy, kinds(copy)))

    def by_words(self, table, saying, thing):
        told = is_paper_by_words(table, saying, thing)
        self.check(told, table, saying, thing)
        return told

    def papers(self, seed, many, most=1024):
        for table, saying in cases(seed, many, most):
            if least_unanswered(table, saying) is None:
                yield table, saying, all_sets(table, saying)

    def test_told_sets_in_any_order_and_twice(self):
        chance = random.Random(48)
        for table, saying, paper in self.papers(48, 150):
            self.check(True, table, saying, paper)
            self.check(True, table, saying, paper[::-1])
            self.check(True, table, saying, paper + paper[-1:])
            self.check(True, table, saying, [(states, few[::-1] + few[:1]) for states, few in paper])
            self.check(True, table, saying, deep_copy(chance.sample(paper + paper, 2 * len(paper))))
            self.check(False, table, saying, tuple(paper))

    def test_told_sets_without_the_bare_ones_where_one_is_unanswered(self):
        for table, saying in cases(49, 150):
            told = all_sets(table, saying)
            holds = least_unanswered(table, saying) is None
            self.check(holds, table, saying, told)
            self.check(holds, table, saying, [entry for entry in told if entry[1]])

    def test_smaller_ones_in_their_stead(self):
        chance = random.Random(50)
        told = []
        for table, saying, paper in self.papers(50, 250):
            for _ in range(6):
                smaller = [(states, tuple(chance.sample(few, chance.randint(1, len(few))))) for states, few in paper]
                told.append(self.by_words(table, saying, smaller))
                self.check(True, table, saying, smaller + paper if told[-1] else paper)
                self.by_words(table, saying, smaller + paper[:1])
        self.assertGreater(told.count(True), 300)
        self.assertGreater(told.count(False), 100)

    def test_one_side_for_each(self):
        # Answering alike needs no more than one side beside each state.
        table = full_table(3, shows=(("b", ("x",)),))
        one = [((state,), (((("b" if state == "b" else "a"),), (True,)),)) for state in "abc"]
        self.check(True, table, (PQ, ALIKE), one)
        self.check(False, table, (PQ, ALIKE), one[:2])
        self.check(False, table, (PQ, ALIKE), one[:2] + [(("c",), ((("b",), (True,)),))])
        self.check(False, table, (PQ, ALIKE), one[:2] + [(("c",), ())])
        self.check(False, table, (PQ, ALIKE), one + [(("c",), ())])
        self.check(True, table, (PQ, ALIKE), one + [(("c",), ((("b",), (True,)),))])

    def test_an_entry_left_out(self):
        kept_on = 0
        for table, saying, paper in self.papers(51, 80):
            for at in range(len(paper)):
                kept_on += self.by_words(table, saying, paper[:at] + paper[at + 1:])
            self.check(False, table, saying, [])
        # Another entry with the same states may do.
        self.assertGreater(kept_on, 0)

    def test_each_truth_turned_and_each_state_changed(self):
        chance = random.Random(52)
        for table, saying, paper in self.papers(52, 60, 300):
            for at, entry in enumerate(paper[:2]):
                for _ in range(8):
                    odd = chance.choice((True, False, *table.states))
                    for thing in chance.sample(changed(entry, lambda one: odd if type(one) is type(odd) else one), 2):
                        self.by_words(table, saying, paper[:at] + [thing] + paper[at + 1:])
                        self.by_words(table, saying, paper + [thing])

    def test_a_side_more(self):
        chance = random.Random(53)
        told = []
        for table, saying, paper in self.papers(53, 100, 300):
            sides = [side for _, few in paper for side in few]
            for at, (states, few) in enumerate(paper[:4]):
                for side in chance.sample(sides, min(3, len(sides))):
                    told.append(self.by_words(table, saying, paper[:at] + [(states, few + (side,))] + paper[at + 1:]))
        self.assertGreater(told.count(True), 50)
        self.assertGreater(told.count(False), 20)

    def test_spoilt_in_each_way(self):
        for table, saying, paper in self.papers(54, 60):
            states, few = paper[0]
            others, values = few[0]
            sides = ((others + others[:1], values), (others[1:], values), (others, values + (True,)),
                     (others, (True,) + values), (others, values[1:]), (others, values[:-1]), (others, ()),
                     (others, values[:-1] + (False,)), (others, values[:-1] + (1,)), ((), values), (values, others),
                     (("z",) + others[1:], values), (list(others), values), (others, list(values)), [others, values],
                     (others,), (others, values, values), (), None, "ab", ("".join(others), values), (others, True))
            entries = [(states, few[1:] + (side,)) for side in sides]
            entries += [(states + states[:1], few), (states[1:], few), ((), few), (("z",) + states[1:], few),
                        (list(states), few), (states, list(few)), (states, ()), (states, few[0]), (states,),
                        (states, few, few), [states, few], (few, states), (), (None,) * 2, ("".join(states), few)]
            for entry in entries:
                self.check(False, table, saying, paper + [entry])
                self.check(False, table, saying, [entry] + paper[1:])
            self.check(False, table, saying, as_list(tuple(paper)))
            self.check(False, table, saying, [paper])

    def test_things_of_any_kind(self):
        for table, saying, paper in self.papers(55, 15, 200):
            for odd in ODD_THINGS:
                self.check(False, table, saying, odd)
                if odd != "a":
                    for thing in changed(paper[0], lambda one, odd=odd: odd):
                        self.by_words(table, saying, paper + [thing])
                        self.by_words(table, saying, [thing] + paper[1:])

    def test_a_table_of_one_state(self):
        table = ring_table(1)
        self.check(True, table, (PQ, ALIKE), [(("a",), ((("a",), (True,)),))])
        self.check(False, table, (PQ, ALIKE), [])
        self.check(False, table, (PQ, ("not", ALIKE)), [(("a",), ((("a",), (False, True)),))])
        self.check(False, table, (PQ, ("not", ALIKE)), [(("a",), ())])

    def test_of_many_entries(self):
        table = full_table(3, shows=(("b", ("x",)),))
        one = [((state,), (((("b" if state == "b" else "a"),), (True,)),)) for state in "abc"]
        self.check(True, table, (PQ, ALIKE), (one * 400)[:1100])
        self.check(False, table, (PQ, ALIKE), (one[1:] * 600)[:1100])

    def test_just_one_of_both_is_shown(self):
        held = 0
        for table, saying in cases(56, 200):
            walk, paper = least_unanswered(table, saying), all_sets(table, saying)
            self.assertIs(shows_answered(table, saying, paper), walk is None)
            self.assertIs(shows_unanswered(table, saying, walk), walk is not None)
            held += walk is None
        self.assertTrue(20 < held < 180, held)


class RefusedTest(unittest.TestCase):

    def check_refused(self, made, field, told, table, saying):
        for number, ask in enumerate(ASKS):
            with self.subTest(number=number, saying=saying):
                with self.assertRaises(made.__bases__[0]) as caught:
                    ask(table, saying)
                self.assertIs(type(caught.exception), made)
                self.assertEqual(getattr(caught.exception, field), told)

    def test_sayings_of_other_kinds(self):
        for words, told in ((("all",), "all"), (("all",) * 3, "all"), (("some",), "some"), (("some",) * 2, "some"),
                            (("some", "all"), "ever"), (("some", "some", "all"), "ever")):
            heads = tuple(zip(words, "pqr"))
            self.check_refused(BadKind, "kind", told, sample_table(), (heads, P))
            # Ahead of TooGreat.
            self.check_refused(BadKind, "kind", told, ring_table(8), (heads, ("ahead", ("ahead", ("ahead", P)))))

    def test_too_great(self):
        at = 0
        for many, words, backs in itertools.product(range(1, 9), SHAPES[1:], range(5)):
            body = P
            for _ in range(backs):
                body = ("since", body, P)
            saying = (tuple(zip(words, "pqr")), body)
            self.assertEqual((looks_back(body), kind_of(saying)), (backs, "answer"))
            table, told = ring_table(many, shows=(("a", ("x",)),)), many_by_hand(ring_table(many), saying)
            at += told == 1024
            if told > 1024:
                self.check_refused(TooGreat, "many", told, table, saying)
            else:
                for ask in ASKS:
                    ask(table, saying)
        self.assertEqual(at, 2)

    def test_the_number_of_very_many(self):
        body = ("ahead", ("ahead", ("ahead", ("ahead", P))))
        saying = ((("all", "p"), ("some", "q"), ("some", "r")), body)
        self.check_refused(TooGreat, "many", 8 * 2 ** 1024, ring_table(8), saying)

    def test_parts_that_do_not_look_back_do_not_count(self):
        body = P
        for _ in range(10):
            body = ("not", body)
        self.assertEqual(least_unanswered(ring_table(7), (PQ, body)), [("a",)])


class ForetellTest(unittest.TestCase):

    def test_what_is_told_of_later_steps_is_answered_by_whole_walks(self):
        # q, which would have to know what comes, is found behind all steps are known.
        table = full_table(2, shows=(("b", ("x",)),))
        self.assertIsNone(least_unanswered(table, (PQ, FORETELL)))
        for walk in walks_by_runs(table, 1, 4):
            answer = first_answer(table, (PQ, FORETELL), walk)
            self.assertEqual(answer, answers_by_hand(table, (PQ, FORETELL), walk)[0])
            self.assertEqual(answer[:-1], walk[1:])
            self.assertTrue(kept(table, (PQ, FORETELL), side_by(walk, answer)))


if __name__ == "__main__":
    unittest.main()
