"""Bodies and sayings: [6], and [2] and [3] as far as they speak of them."""

import itertools
import random
import unittest

from manyruns.bodies import is_saying, kind_of, looks_back, made_of, parts_of
from tests.helpers import (ODD_THINGS, as_list, backs_of, changed, deep_copy, kinds, nested, random_body,
                           random_heads)

P = ("has", "p", "x")
Q = ("has", "q", "y")
PQ = ("alike", "p", "q", ("x", "y"))
TWO = (("all", "p"), ("some", "q"))
# Bodies of each kind, of the runs p and q.
BODIES = (
    P, Q, PQ, ("alike", "q", "p", ("abcdefgh",)), ("has", "p", "abcdefgh"), ("alike", "p", "q", ("a", "aa", "b", "c")),
    ("not", P), ("and", P, Q), ("or", PQ, P), ("ahead", P), ("ever", Q), ("since", P, PQ),
    ("not", ("ahead", ("ever", ("since", ("not", P), ("or", P, P))))),
    ("since", ("and", P, Q), ("ever", ("ahead", ("alike", "q", "p", ("z",))))),
)


def chain(words, inner):
    """The inner body within one of these words, the last one inmost."""
    for word in reversed(words):
        inner = (word, inner)
    return inner


def parts_by_going_in(body):
    """The parts, straight by the words of [6]."""
    if body[0] in ("has", "alike"):
        return [body]
    return [part for one in body[1:] for part in parts_by_going_in(one)] + [body]


class SayingCase(unittest.TestCase):

    def check(self, told, thing):
        copy = deep_copy(thing)
        self.assertIs(is_saying(thing), told, thing)
        self.assertIs(is_saying(thing=thing), told)
        self.assertEqual(kinds(thing), kinds(copy))

    def check_body(self, told, body, heads=TWO):
        self.check(told, (heads, body))


class IsSayingTest(SayingCase):

    def test_each_kind_of_body(self):
        for body in BODIES:
            self.check_body(True, body)

    def test_random_ones(self):
        chance = random.Random(6)
        for _ in range(400):
            words = chance.choice((("all",), ("some", "all"), ("all", "all", "some"), ("some",) * 3))
            heads = random_heads(chance, words, len(words))
            body = random_body(chance, [run for _, run in heads], 4)
            fits = len(parts_by_going_in(body)) <= 12 and backs_of(body) <= 4
            self.check_body(fits, body, heads)

    def test_words_that_are_none(self):
        for word in ("", "has ", "Has", "nor", "all", "before", "ahead ", "true", "x", None, True, 0, ("not",), [],
                     ["not"], nested(10, "not", tuple)):
            for body in ((word,), (word, P), (word, P, Q), (word, "p", "x"), (word, "p", "q", ("x",))):
                self.check_body(False, body)
                self.check_body(False, ("not", body))

    def test_one_part_too_many_or_too_few(self):
        for body in BODIES:
            self.check_body(False, body[:-1])
            self.check_body(False, body + body[-1:])
            self.check_body(False, body + (P,))
            self.check_body(False, body[:1])
            self.check_body(False, ("and", P, body[:-1]))
            self.check_body(False, ("and", body + body[-1:], P))
        self.check_body(False, ())
        self.check_body(False, ("not", ()))

    def test_lists_for_tuples(self):
        for body in BODIES:
            if body[0] not in ("has", "alike"):
                self.check_body(False, (body[0], *[list(one) for one in body[1:]]))
            for thing in changed((TWO, body), lambda one: list(one) if isinstance(one, tuple) else None):
                self.check(False, thing)
            self.check(False, as_list((TWO, body)))

    def test_runs_alike_and_strange_ones(self):
        self.check_body(False, ("alike", "p", "p", ("x",)))
        self.check_body(False, ("alike", "q", "q", ("x", "y")))
        for run in ("r", "", "pp", "P", "all", None, True, 0, 1, ("p",), ["p"], ()):
            for body in (("has", run, "x"), ("alike", run, "q", ("x",)), ("alike", "p", run, ("x",))):
                self.check_body(False, body)
                self.check_body(False, ("since", P, ("not", body)))
        self.check_body(False, Q, (("all", "p"),))
        self.check_body(False, PQ, (("all", "p"), ("all", "r")))
        self.check_body(True, P, (("all", "p"), ("all", "r")))

    def test_marks(self):
        for mark in ("x", "abcdefgh", "p", "not"):
            self.check_body(True, ("has", "p", mark))
            self.check_body(True, ("alike", "p", "q", (mark,)))
        for mark in ("", "abcdefghi", "X", "x y", "x1", "\u00e9", None, True, 1, 10 ** 5000, ("x",), ["x"], ()):
            self.check_body(False, ("has", "p", mark))
            self.check_body(False, ("alike", "p", "q", (mark,)))
            self.check_body(False, ("alike", "p", "q", ("a", mark)))

    def test_marks_that_do_not_rise_none_and_five(self):
        for marks in ((), ("b", "a"), ("a", "a"), ("a", "c", "b"), tuple("abcde"), ["a"], [], "a", "ab", "", None, True, 1):
            self.check_body(False, ("alike", "p", "q", marks))
        for many in range(1, 5):
            self.check_body(True, ("alike", "p", "q", tuple("abcd"[:many])))

    def test_how_many_heads(self):
        for many in range(0, 5):
            for word in ("all", "some"):
                heads = tuple((word, run) for run in "pqrs"[:many])
                self.check_body(1 <= many <= 3, P, heads)

    def test_the_words_of_heads_change_once_at_most(self):
        for many in (1, 2, 3):
            for words in itertools.product(("all", "some"), repeat=many):
                heads = tuple(zip(words, "pqr"))
                self.check_body(words not in (("all", "some", "all"), ("some", "all", "some")), P, heads)

    def test_runs_of_heads_alike(self):
        for words in itertools.product(("all", "some"), repeat=2):
            self.check_body(False, P, tuple(zip(words, "pp")))
        for runs in ("ppq", "pqp", "qpp", "ppp"):
            self.check_body(False, P, tuple(zip(("all",) * 3, runs)))

    def test_strange_heads(self):
        self.check_body(True, P, (("all", "p"), ("some", "abcdefgh")))
        for head in ("p", "all p", ("all",), ("p",), ("all", "q", "q"), ("every", "q"), ("q", "all"), ("All", "q"),
                     ("all", ""), ("all", "Q"), ("all", "abcdefghi"), ("all", None), ("all", True), ("all", 1),
                     (True, "q"), (None, "q"), (("all",), "q"), ("all", ("q",)), ["all", "q"], [], (), None, 1, True):
            self.check_body(False, P, (("all", "p"), head))
            self.check_body(False, P, (head, ("all", "p")))
        for heads in ("p", ("all", "p"), [("all", "p")], None, True, 1, ((("all", "p"),),), ("all", ("p", "q"))):
            self.check_body(False, P, heads)

    def test_how_many_parts(self):
        for many in range(0, 25):
            self.check_body(many <= 11, chain(("not",) * many, P))
        eleven = chain(("not",) * 6, ("and", P, ("or", Q, P)))
        self.check_body(True, eleven)
        self.check_body(True, ("not", eleven))
        self.check_body(False, ("not", ("not", eleven)))
        self.check_body(False, ("or", P, eleven))
        self.check_body(False, ("or", eleven, P))

    def test_how_many_look_back(self):
        for many in range(0, 8):
            for word in ("ahead", "ever"):
                self.check_body(many <= 4, chain((word,) * many, P))
        for words in itertools.product(("ahead", "ever"), repeat=4):
            self.check_body(True, chain(words, P))
            for word in ("ahead", "ever", "since"):
                body = ("since", chain(words, P), Q) if word == "since" else (word, chain(words, P))
                self.check_body(False, body)
        self.check_body(True, ("since", ("since", P, Q), ("since", ("since", P, P), P)))
        self.check_body(False, ("since", ("since", P, Q), ("since", ("since", P, P), ("ever", P))))

    def test_a_thing_that_stands_in_itself_very_often(self):
        body = P
        for _ in range(18):
            body = ("and", body, body)
        self.assertIs(is_saying((TWO, body)), False)

    def test_truths_and_other_things_in_each_place(self):
        for body in BODIES:
            for odd in ODD_THINGS + (True, False, (P,), [P], P[:1] + P):
                if odd in ("a", "all"):
                    continue
                for thing in changed((TWO, body), lambda one, odd=odd: odd):
                    self.check(False, thing)

    def test_odd_things(self):
        for thing in ODD_THINGS + (True, False, P, TWO, (P, TWO), (TWO,), (TWO, P, P), [TWO, P], (list(TWO), P)):
            self.check(False, thing)


class PartsTest(SayingCase):

    def test_in_their_order(self):
        self.assertEqual(parts_of(P), [P])
        self.assertEqual(parts_of(("not", PQ)), [PQ, ("not", PQ)])
        body = ("since", ("and", P, ("not", Q)), ("ahead", PQ))
        self.assertEqual(parts_of(body), [P, Q, ("not", Q), body[1], PQ, body[2], body])

    def test_equal_ones_as_often_as_they_stand(self):
        both = ("or", P, P)
        self.assertEqual(parts_of(both), [P, P, both])
        body = ("and", both, ("since", both, P))
        self.assertEqual(parts_of(body), [P, P, both, P, P, both, P, body[2], body])

    def test_beside_going_in(self):
        chance = random.Random(7)
        for _ in range(300):
            body = random_body(chance, ["p", "q"], 5)
            told = parts_of(body)
            self.assertEqual(told, parts_by_going_in(body))
            self.assertIs(type(told), list)
            self.assertEqual(parts_of(body=body)[-1], body)
            self.assertEqual(looks_back(body), backs_of(body))

    def test_words_of_bodies_as_marks_and_runs(self):
        self.assertEqual(parts_of(("has", "not", "and")), [("has", "not", "and")])
        body = ("alike", "ever", "since", ("ahead", "not"))
        self.assertEqual((parts_of(body), looks_back(body)), ([body], 0))
        self.assertEqual((parts_of(("ahead", body)), looks_back(("ahead", body))), ([body, ("ahead", body)], 1))

    def test_a_told_list_is_the_askers_own(self):
        body = ("and", P, Q)
        told = parts_of(body)
        told.pop()
        told[0] = None
        self.assertEqual(parts_of(body), [P, Q, body])
        self.assertEqual(body, ("and", P, Q))

    def test_made_of(self):
        self.assertEqual([made_of(body) for body in (P, PQ, ("not", P), ("since", P, Q))], [(), (), (P,), (P, Q)])


class LooksBackTest(unittest.TestCase):

    def test_each_word(self):
        for body, told in ((P, 0), (PQ, 0), (("not", P), 0), (("and", P, Q), 0), (("or", P, Q), 0), (("ahead", P), 1),
                           (("ever", P), 1), (("since", P, Q), 1), (("since", ("ahead", P), ("ever", P)), 3),
                           (("not", ("and", ("ever", P), ("ever", P))), 2), (chain(("ahead",) * 4, P), 4)):
            self.assertEqual(looks_back(body), told)
            self.assertEqual(looks_back(body=body), told)


class KindOfTest(unittest.TestCase):

    def test_all_four_kinds(self):
        for words, told in ((("all",), "all"), (("all",) * 2, "all"), (("all",) * 3, "all"),
                            (("some",), "some"), (("some",) * 2, "some"), (("some",) * 3, "some"),
                            (("all", "some"), "answer"), (("all", "all", "some"), "answer"),
                            (("all", "some", "some"), "answer"), (("some", "all"), "ever"),
                            (("some", "all", "all"), "ever"), (("some", "some", "all"), "ever")):
            saying = (tuple(zip(words, "pqr")), P)
            self.assertEqual(kind_of(saying), told)
            self.assertEqual(kind_of(saying=saying), told)

    def test_runs_called_as_the_words_are(self):
        body = ("has", "all", "x")
        self.assertEqual(kind_of(((("all", "some"), ("all", "all")), body)), "all")
        self.assertEqual(kind_of(((("some", "some"), ("some", "all")), body)), "some")
        self.assertIs(is_saying(((("all", "some"), ("all", "all")), body)), True)


if __name__ == "__main__":
    unittest.main()
