"""Texts of sayings: [18], and [2] and [3] as far as they speak of them."""

import random
import unittest

from manyruns.bodies import is_saying
from manyruns.errors import BadText
from manyruns.saytexts import say_in, say_text
from tests.handtexts import saying_by_hand
from tests.helpers import deep_copy, kinds, random_body, random_heads

ONE = (("all", "p"),)
TWO = (("all", "p"), ("some", "q"))
P, Q = ("has", "p", "x"), ("has", "q", "y")
ALIKE = ("alike", "p", "q", ("a", "b"))
SAMPLES = (
    ((ONE, P), "all p : p.x"),
    ((TWO, ALIKE), "all p some q : p~q.a,b"),
    ((TWO, ("alike", "q", "p", ("y",))), "all p some q : q~p.y"),
    (((("some", "p"),), ("not", P)), "some p : not p.x"),
    ((ONE, ("ahead", P)), "all p : ahead p.x"),
    ((ONE, ("ever", P)), "all p : ever p.x"),
    ((TWO, ("and", P, Q)), "all p some q : ( p.x and q.y )"),
    ((TWO, ("or", P, Q)), "all p some q : ( p.x or q.y )"),
    ((TWO, ("since", P, Q)), "all p some q : ( p.x since q.y )"),
    ((TWO, ("since", ("not", ("and", P, Q)), ("or", ("ever", P), ALIKE))),
     "all p some q : ( not ( p.x and q.y ) since ( ever p.x or p~q.a,b ) )"),
    (((("some", "p"), ("all", "q"), ("all", "r")), ("not", ("not", ("ahead", ("ever", Q))))),
     "some p all q all r : not not ahead ever q.y"),
    # Words may be names.
    (((("all", "all"), ("all", "not"), ("some", "some")), ("not", ("and", ("has", "not", "and"), ("has", "some", "or")))),
     "all all all not some some : not ( not.and and some.or )"),
    (((("all", "abcdefgh"),), ("has", "abcdefgh", "stuvwxyz")), "all abcdefgh : abcdefgh.stuvwxyz"),
    ((TWO, ("alike", "p", "q", ("abcdefgh", "b", "c", "zzzzzzzz"))), "all p some q : p~q.abcdefgh,b,c,zzzzzzzz"),
)


def random_sayings(seed, many):
    chance = random.Random(seed)
    found = 0
    while found < many:
        words = chance.choice((("all",), ("all", "some"), ("some",) * 2, ("some", "all", "all"), ("all",) * 3))
        heads = random_heads(chance, words, len(words))
        saying = heads, random_body(chance, [run for _, run in heads], chance.randint(1, 5))
        if is_saying(saying):
            found += 1
            yield saying


class SayTextTest(unittest.TestCase):

    def test_by_the_words(self):
        for saying, text in SAMPLES:
            self.assertTrue(is_saying(saying))
            self.assertEqual(say_text(saying), text)
            self.assertEqual(say_text(saying=saying), text)
            self.assertIs(type(say_text(saying)), str)

    def test_beside_a_reading_from_the_left(self):
        for saying in random_sayings(131, 400):
            copy = deep_copy(saying)
            self.assertEqual(saying_by_hand(say_text(saying)), saying)
            self.assertEqual(saying, copy)


class SayInTest(unittest.TestCase):

    def check(self, text, told):
        if told is None:
            with self.assertRaises(ValueError) as caught:
                say_in(text)
            self.assertIs(type(caught.exception), BadText)
            self.assertEqual(caught.exception.text, text)
        else:
            self.assertEqual((say_in(text), kinds(say_in(text))), (told, kinds(told)))
            self.assertEqual(say_in(text=text), told)

    def test_there_and_back(self):
        for saying, text in SAMPLES:
            self.check(text, saying)
        for saying in random_sayings(132, 400):
            self.check(say_text(saying), saying)

    def test_blanks(self):
        for _, text in SAMPLES:
            for at, sign in enumerate(text):
                if sign == " ":
                    self.check(text[:at] + text[at + 1:], None)
                    self.check(text[:at] + "  " + text[at + 1:], None)
                    self.check(text[:at] + "\n" + text[at + 1:], None)
                    self.check(text[:at] + "\t" + text[at + 1:], None)
            for odd in (" " + text, text + " ", "\n" + text, text + "\n", text + "\t", text + "\x00"):
                self.check(odd, None)

    def test_brackets(self):
        for text in ("all p : ( p.x )", "all p : p.x )", "all p : ( p.x", "all p : ( p.x and p.x", "all p : p.x and p.x )",
                     "all p : p.x and p.x", "all p : ( p.x and p.x ) )", "all p : ( ( p.x and p.x )",
                     "all p : ( ( p.x and p.x ) )", "all p : ( p.x and p.x and p.x )", "all p : (p.x and p.x)",
                     "all p : ( )", "all p : (", "all p : )", "all p : ( and )", "all p : ( p.x p.x )",
                     "all p : ( p.x and )", "all p : ( and p.x )", "all p : ) p.x and p.x (", "( all p : p.x )",
                     "all p : ( not p.x )", "all p : not ( p.x )", "all p : [ p.x and p.x ]"):
            self.check(text, None)

    def test_words(self):
        for text in ("all p : no p.x", "all p : not", "all p : not not", "all p : p.x not", "all p : ahead", "all p : ever",
                     "all p : ( p.x xor p.x )", "all p : ( p.x not p.x )", "all p : ( p.x ahead p.x )", "all p : NOT p.x",
                     "all p : since p.x", "all p : and", "all p : p.x p.x", "all p :", "all p : ", "all p", "all p.x",
                     ": p.x", " : p.x", "p.x", "", ":", " : ", "all p : : p.x", "all p : p.x : p.x", "all p : all p : p.x",
                     "all p : not p.x p.x", "all p : and p.x p.x", "all p : ( p.x : p.x )", "all p : has p x"):
            self.check(text, None)

    def test_heads_that_are_none(self):
        for text in ("any p : p.x", "all : p.x", "p : p.x", "all p some : p.x", "all p q : p.x", "all p some p : p.x",
                     "all p some q all r : p.x", "some p all q some r : p.x", "all p all q all r all s : p.x",
                     "all P : P.x", "all abcdefghi : abcdefghi.x", "all p, some q : p.x", "all p : q.x", "all  : .x",
                     "all p some q : r.x", "all p some q : p~r.x", "all p some q : r~p.x", "some : some.x",
                     "all p1 : p1.x", "all p all : p.x", "all p all q", "all p all p : p.x"):
            self.check(text, None)

    def test_names_and_marks(self):
        for body in ("p.", ".x", "p", "p.x.y", "p.X", "p.x1", "p.abcdefghi", "p..x", "p,x", "p.x,y", "p~q", "p~q.", "p~.x",
                     "~q.x", "p~p.x", "p~q.b,a", "p~q.a,a", "p~q.a,", "p~q.,a", "p~q.a,,b", "p~q.a,b,c,d,e", "p~q~p.a",
                     "p~q.a~b", "p~q.a.b", "p.q~x", "q~p.b,a", "p~q.A", "p-q.a", "p~q.a;b", "p~q.abcdefghi", "(p.x)"):
            for text in (f"all p some q : {body}", f"all p some q : not {body}", f"all p some q : ( p.x and {body} )"):
                self.check(text, None)

    def test_a_part_too_many(self):
        for many in range(20):
            body = P
            for _ in range(many):
                body = ("not", body)
            self.check("all p : " + "not " * many + "p.x", (ONE, body) if many < 12 else None)
        for many in range(8):
            body = P
            for _ in range(many):
                body = ("ever", body)
            self.check("all p : " + "ever " * many + "p.x", (ONE, body) if many < 5 else None)
        body, text = P, "p.x"
        for many in range(1, 8):
            body, text = ("or", body, P), f"( {text} or p.x )"
            self.check("all p : " + text, (ONE, body) if many < 6 else None)

    def test_texts_of_any_length(self):
        for text in ("not " * 50000 + "p.x", "all p : " + "not " * 50000 + "p.x", "all p : " + "( " * 50000,
                     "all p : " + "( p.x and " * 20000 + "p.x" + " )" * 20000, "all p " * 20000 + ": p.x", " " * 50000,
                     "all p : p." + "x" * 50000, "all p some q : p~q." + ",".join("a" * 20000), ":" * 50000,
                     ": " * 50000, "all p : " + ") " * 50000, "all p : " + "and " * 50000):
            self.check(text, None)

    def test_each_sign_changed_or_left_out(self):
        for _, text in SAMPLES:
            for at in range(len(text)):
                for sign in ("", "a", "q", "A", " ", ".", "~", ",", ":", "(", ")", "0", "\n", text[at] * 2):
                    other = text[:at] + sign + text[at + 1:]
                    self.check(other, saying_by_hand(other))

    def test_words_in_another_order(self):
        chance = random.Random(133)
        held = 0
        for saying in random_sayings(133, 200):
            words = say_text(saying).split(" ")
            for _ in range(10):
                other = list(words)
                one, two = chance.randrange(len(other)), chance.randrange(len(other))
                other[one], other[two] = other[two], other[one]
                if chance.random() < 0.3:
                    other.insert(chance.randrange(len(other)), chance.choice(words + ["since", "(", ")", "not"]))
                text = " ".join(other)
                told = saying_by_hand(text)
                held += told is not None
                self.check(text, told)
        self.assertTrue(200 < held < 1800, held)


if __name__ == "__main__":
    unittest.main()
