"""The bench: [16], [17], [1] (g), and [2] and [3] as far as they speak of it."""

import random
import unittest

from manyruns.bench import Bench
from manyruns.bodies import kind_of
from manyruns.errors import (BadKind, BadTable, Known, LastBegin, LastMove, NoDeed, NoMend, NoMove, NoSaying, NoState,
                             TooGreat)
from manyruns.evers import least_none
from manyruns.mends import least_mend
from manyruns.sets import least_unanswered
from manyruns.sides import least_break
from manyruns.tables import Table
from tests.handbench import HandBench, Refused, random_deed, refusal_of
from tests.helpers import deep_copy, full_table, kinds, random_table, ring_table, sample_table

P = ("has", "p", "x")
ALIKE = ("alike", "p", "q", ("x",))
HOLDS = ((("all", "p"),), ("or", P, ("not", P)))
BREAKS = ((("all", "p"),), P)
ANSWERED = ((("all", "p"), ("some", "q")), ALIKE)
UNANSWERED = ((("all", "p"), ("some", "q")), ("not", ALIKE))
SOME = ((("some", "p"),), P)
NONE = ((("some", "p"),), ("not", P))
EVER = ((("some", "p"), ("all", "q")), ("or", P, ("not", ("has", "q", "y"))))
NEVER = ((("some", "p"), ("all", "q")), ALIKE)
GREAT = ((("all", "p"), ("all", "q"), ("all", "r")), ("ever", ("ever", ("ever", ("ever", P)))))
SET_GREAT = ((("all", "p"), ("some", "q")), ("ever", ("ever", ALIKE)))
EVER_GREAT = ((("some", "p"), ("all", "q")), ("ever", ("ever", ALIKE)))


def snapshot(bench):
    """All that a bench tells but its log."""
    sayings = [(name, bench.saying(name)) for name in bench.names()]
    benches = [bench.as_of(many) for many in range(bench.deeds() + 1)]
    ways = [(one.table(), one.names(), [one.saying(name) for name in one.names()]) for one in benches]
    return bench.table(), sayings, bench.broken(), bench.deeds(), ways, bench.is_open(), len(bench), repr(bench)


def called(bench, deed):
    """The deed done to the bench by its method."""
    word, *rest = deed
    if word == "add":
        return bench.add(rest[0], to=rest[1], marks=rest[2])
    if word == "mend":
        return bench.mend(rest[0], most=rest[1])
    return getattr(bench, word)(*rest)


class Checks(unittest.TestCase):

    def check_refused(self, bench, made, field, told, ask, *words):
        """Refused so, and only the log has come by it, with both ends of each of the words, one in the other."""
        before, log = snapshot(bench), bench.log()
        with self.assertRaises(made.__bases__[0]) as caught:
            ask()
        self.assertIs(type(caught.exception), made)
        self.assertEqual(vars(caught.exception), {field: told} if field else {})
        self.assertEqual(snapshot(bench), before)
        ends = [("in", word) for word in words] + [("out", word) for word in words[::-1]]
        self.assertEqual(bench.log(), log + ends)
        self.assertIs(bench.is_open(), False)

    def check_done(self, bench, told, table, ask, word):
        """Done so, with this table and both ends in the log; undone, all but the log is as it was."""
        before, log = snapshot(bench), bench.log()
        self.assertEqual((ask(), kinds(told)), (told, kinds(told)))
        self.assertEqual(bench.table(), table)
        self.assertEqual(bench.deeds(), before[3] + 1)
        self.assertEqual(bench.log(), log + [("in", word), ("out", word)])
        self.assertIs(bench.is_open(), False)
        after = snapshot(bench)
        self.assertIs(bench.undo(), True)
        self.assertEqual(snapshot(bench), before)
        ask()
        self.assertEqual(snapshot(bench), after)


class DeedsTest(Checks):

    def table(self, states="abc", moves="aa ab ba bc cc", begins="ac", shows="a:x c:x,y"):
        shows = tuple((state, tuple(marks.split(","))) for state, marks in [one.split(":") for one in shows.split()])
        return Table(tuple(states), tuple(tuple(move) for move in moves.split()), begins=tuple(begins), shows=shows)

    def test_add(self):
        table = self.table
        for to, marks, told in (
                ((), (), table("abcd", "aa ab ba bc cc dd")), (("a",), (), table("abcd", "aa ab ba bc cc da")),
                (("d",), (), table("abcd", "aa ab ba bc cc dd")), (("d", "c", "a"), (), table("abcd", "aa ab ba bc cc da dc dd")),
                ((), ("z", "x"), table("abcd", "aa ab ba bc cc dd", shows="a:x c:x,y d:x,z")),
                (("b",), ("w", "x", "y", "z"), table("abcd", "aa ab ba bc cc db", shows="a:x c:x,y d:w,x,y,z"))):
            for kind in (tuple, list):
                bench = Bench(sample_table())
                self.check_done(bench, None, told, lambda: bench.add("d", to=kind(to), marks=kind(marks)), "add")
                bench = Bench(sample_table())
                self.check_done(bench, None, told, lambda: bench.add(marks=kind(marks), to=kind(to), state="d"), "add")
        bench = Bench(sample_table())
        self.check_done(bench, None, table("abcd", "aa ab ba bc cc dd"), lambda: bench.add("d"), "add")
        # Ahead of the others.
        bench = Bench(ring_table(2))
        told = Table(("a", "aa", "b"), (("a", "b"), ("aa", "b"), ("b", "a")), begins=("a",))
        self.check_done(bench, None, told, lambda: bench.add("aa", to=["b"]), "add")

    def test_add_refused(self):
        bench = Bench(sample_table())
        self.check_refused(bench, Known, "name", "b", lambda: bench.add("b"), "add")
        self.check_refused(bench, Known, "name", "b", lambda: bench.add("b", to=("z",), marks=("x", "x")), "add")
        self.check_refused(bench, NoState, "name", "z", lambda: bench.add("d", to=("a", "z", "y")), "add")
        self.check_refused(bench, NoState, "name", "e", lambda: bench.add("d", to=["d", "e"], marks=["x", "x"]), "add")
        self.check_refused(bench, NoState, "name", "z", lambda: bench.add("A", to=["A", "z", "a", "a"]), "add")
        for state in ("A", "abcdefghi", "", "a b", "d1"):
            self.check_refused(bench, BadTable, "part", "states",
                               lambda state=state: bench.add(state, to=("a", "a"), marks=("x", "x")), "add")
        self.check_refused(bench, BadTable, "part", "moves", lambda: bench.add("d", to=("a", "b", "a")), "add")
        self.check_refused(bench, BadTable, "part", "moves", lambda: bench.add("d", to=["d", "d"], marks=["A"]), "add")
        for marks in (("x", "x"), ("A",), ("v", "w", "x", "y", "z"), ("abcdefghi",), ("x", "")):
            self.check_refused(bench, BadTable, "part", "shows", lambda marks=marks: bench.add("d", marks=marks), "add")
        bench = Bench(ring_table(8))
        self.check_refused(bench, BadTable, "part", "states", lambda: bench.add("i", to=("a", "a")), "add")
        self.check_refused(bench, Known, "name", "h", lambda: bench.add("h"), "add")
        bench = Bench(full_table(4))
        bench.add("e", to=tuple("abcde"))
        self.check_refused(bench, BadTable, "part", "moves", lambda: bench.add("f", to=tuple("abcd"), marks=("A",)), "add")
        bench.add("f", to=["a", "b", "c"])
        self.assertEqual(len(bench.table()), 24)
        self.check_refused(bench, BadTable, "part", "moves", lambda: bench.add("g"), "add")

    def test_drop(self):
        bench = Bench(sample_table())
        self.check_done(bench, None, self.table("bc", "bc cc", "c", "c:x,y"), lambda: bench.drop("a"), "drop")
        bench = Bench(sample_table())
        self.check_done(bench, None, self.table("ab", "aa ab ba", "a", "a:x"), lambda: bench.drop(state="c"), "drop")
        bench = Bench(sample_table())
        self.check_done(bench, None, self.table("ac", "aa cc", "ac"), lambda: bench.drop("b"), "drop")

    def test_drop_refused(self):
        bench = Bench(sample_table())
        self.check_refused(bench, NoState, "name", "d", lambda: bench.drop("d"), "drop")
        bench.drop("a")
        self.check_refused(bench, LastBegin, None, None, lambda: bench.drop("c"), "drop")
        self.check_refused(bench, NoState, "name", "a", lambda: bench.drop("a"), "drop")
        bench.begin("b")
        self.check_refused(bench, LastMove, "state", "b", lambda: bench.drop("c"), "drop")
        bench = Bench(Table(("a", "b", "c", "d"), (("a", "d"), ("b", "d"), ("c", "a"), ("d", "d")), begins=("c", "d")))
        self.check_refused(bench, LastMove, "state", "a", lambda: bench.drop("d"), "drop")
        self.check_refused(bench, LastMove, "state", "c", lambda: bench.drop("a"), "drop")
        bench = Bench(ring_table(1))
        self.check_refused(bench, LastBegin, None, None, lambda: bench.drop("a"), "drop")

    def test_link_and_cut(self):
        bench = Bench(sample_table())
        self.check_done(bench, None, self.table(moves="aa ab ac ba bc cc"), lambda: bench.link("a", "c"), "link")
        self.check_done(bench, None, self.table(moves="aa ab ac ba bb bc cc"), lambda: bench.link(other="b", one="b"), "link")
        self.check_done(bench, None, self.table(moves="ab ac ba bb bc cc"), lambda: bench.cut("a", "a"), "cut")
        self.check_done(bench, None, self.table(moves="ab ac ba bc cc"), lambda: bench.cut(other="b", one="b"), "cut")

    def test_link_and_cut_refused(self):
        bench = Bench(sample_table())
        for word in ("link", "cut"):
            ask = getattr(bench, word)
            self.check_refused(bench, NoState, "name", "d", lambda ask=ask: ask("d", "a"), word)
            self.check_refused(bench, NoState, "name", "d", lambda ask=ask: ask("a", "d"), word)
            self.check_refused(bench, NoState, "name", "e", lambda ask=ask: ask("e", "d"), word)
        self.check_refused(bench, Known, "name", ("b", "c"), lambda: bench.link("b", "c"), "link")
        self.check_refused(bench, NoMove, "move", ("c", "b"), lambda: bench.cut("c", "b"), "cut")
        self.check_refused(bench, LastMove, "state", "c", lambda: bench.cut("c", "c"), "cut")
        bench = Bench(Table(tuple("abcdefgh"), tuple(sorted({(one, other) for one in "abcdefgh" for other in "abc"})),
                            begins=("a",)))
        self.check_refused(bench, BadTable, "part", "moves", lambda: bench.link("a", "d"), "link")
        self.check_refused(bench, Known, "name", ("a", "c"), lambda: bench.link("a", "c"), "link")

    def test_mark(self):
        for state, marks, told in (("a", ("z",), "a:z c:x,y"), ("a", ("z", "x"), "a:x,z c:x,y"), ("b", ("x",), "a:x b:x c:x,y"),
                                   ("c", (), "a:x"), ("b", (), "a:x c:x,y"), ("a", ("x",), "a:x c:x,y"),
                                   ("c", ("z", "w", "y", "x"), "a:x c:w,x,y,z")):
            for kind in (tuple, list):
                bench = Bench(sample_table())
                self.check_done(bench, None, self.table(shows=told), lambda: bench.mark(state, kind(marks)), "mark")
                bench = Bench(sample_table())
                self.check_done(bench, None, self.table(shows=told), lambda: bench.mark(marks=kind(marks), state=state), "mark")

    def test_mark_refused(self):
        bench = Bench(sample_table())
        self.check_refused(bench, NoState, "name", "d", lambda: bench.mark("d", ("x", "x")), "mark")
        for marks in (("x", "x"), ["y", "x", "y"], ("A",), ("v", "w", "x", "y", "z"), ["abcdefghi"], ("",), ("x y",)):
            self.check_refused(bench, BadTable, "part", "shows", lambda marks=marks: bench.mark("a", marks), "mark")

    def test_begin_and_unbegin(self):
        bench = Bench(sample_table())
        self.check_done(bench, None, self.table(begins="abc"), lambda: bench.begin("b"), "begin")
        self.check_done(bench, None, self.table(begins="bc"), lambda: bench.unbegin(state="a"), "unbegin")
        self.check_done(bench, None, self.table(begins="abc"), lambda: bench.begin(state="a"), "begin")

    def test_begin_and_unbegin_refused(self):
        bench = Bench(sample_table())
        self.check_refused(bench, NoState, "name", "d", lambda: bench.begin("d"), "begin")
        self.check_refused(bench, Known, "name", "c", lambda: bench.begin("c"), "begin")
        for state in ("d", "b"):
            self.check_refused(bench, NoState, "name", state, lambda state=state: bench.unbegin(state), "unbegin")
        bench.unbegin("a")
        self.check_refused(bench, LastBegin, None, None, lambda: bench.unbegin("c"), "unbegin")
        self.check_refused(bench, NoState, "name", "a", lambda: bench.unbegin("a"), "unbegin")

    def test_say_and_unsay(self):
        bench = Bench(sample_table())
        self.check_done(bench, None, sample_table(), lambda: bench.say("t", BREAKS), "say")
        self.check_done(bench, None, sample_table(), lambda: bench.say(saying=ANSWERED, name="s"), "say")
        self.assertEqual((bench.names(), bench.saying("s"), bench.saying(name="t")), (["s", "t"], ANSWERED, BREAKS))
        self.check_refused(bench, Known, "name", "s", lambda: bench.say("s", BREAKS), "say")
        self.check_refused(bench, NoSaying, "name", "r", lambda: bench.unsay("r"), "unsay")
        self.check_done(bench, None, sample_table(), lambda: bench.unsay("s"), "unsay")
        self.check_done(bench, None, sample_table(), lambda: bench.unsay(name="t"), "unsay")
        self.assertEqual(bench.names(), [])
        self.check_refused(bench, NoSaying, "name", "t", lambda: bench.unsay("t"), "unsay")

    def test_mend(self):
        bench = Bench(sample_table())
        bench.say("s", BREAKS)
        less = self.table(moves="aa ba bc cc")
        self.check_done(bench, (("a", "b"),), less, lambda: bench.mend("s"), "mend")
        self.assertEqual(bench.told("s"), ("true", None))
        self.check_done(bench, (), less, lambda: bench.mend(most=0, name="s"), "mend")

    def test_mend_with_most(self):
        table = Table(("a", "b", "c", "d"), (("a", "a"), ("a", "b"), ("a", "c"), ("b", "d"), ("c", "d"), ("d", "d")),
                      begins=("a",), shows=(("d", ("x",)),))
        bench = Bench(table)
        bench.say("s", ((("all", "p"),), ("not", P)))
        for most in (0, 1):
            self.check_refused(bench, NoMend, None, None, lambda most=most: bench.mend("s", most=most), "mend")
        told = (("a", "b"), ("a", "c"))
        self.check_done(bench, told, table.without(told), lambda: bench.mend("s"), "mend")
        bench.undo()
        self.check_done(bench, told, table.without(told), lambda: bench.mend("s", most=2), "mend")

    def test_mend_refused(self):
        bench = Bench(full_table(4))
        self.check_refused(bench, NoSaying, "name", "s", lambda: bench.mend("s"), "mend")
        for name, saying, made, field, told in (
                ("s", ANSWERED, BadKind, "kind", "answer"), ("t", SOME, BadKind, "kind", "some"),
                ("u", NEVER, BadKind, "kind", "ever"), ("v", GREAT, TooGreat, "many", 1024), ("w", BREAKS, NoMend, None, None)):
            bench.say(name, saying)
            self.check_refused(bench, made, field, told, lambda name=name: bench.mend(name), "mend")
        self.check_refused(bench, NoSaying, "name", "x", lambda: bench.mend("x"), "mend")

    def test_arguments_by_name_alone(self):
        bench = Bench(sample_table())
        for ask in (lambda: bench.add("d", ("a",)), lambda: bench.mend("s", 1)):
            with self.assertRaises(TypeError):
                ask()
        self.assertEqual(bench, Bench(sample_table()))


class DoTest(Checks):

    def test_several_as_one(self):
        bench = Bench(sample_table())
        deeds = [("say", "s", BREAKS), ("add", "d", ["a", "d"], ("y",)), ("link", "a", "d"), ("mend", "s", 2),
                 ("begin", "b"), ("unbegin", "c"), ("mark", "d", ["z", "x"]), ("cut", "d", "d"), ("drop", "c"),
                 ("unsay", "s")]
        copy = deep_copy(deeds)
        before = snapshot(bench)
        self.assertEqual(bench.do(deeds), [None, None, None, (("a", "b"), ("a", "d"))] + [None] * 6)
        self.assertEqual((deeds, kinds(deeds)), (copy, kinds(copy)))
        told = Table(("a", "b", "d"), (("a", "a"), ("b", "a"), ("d", "a")), begins=("a", "b"),
                     shows=(("a", ("x",)), ("d", ("x", "z"))))
        self.assertEqual((bench.table(), bench.names(), bench.deeds()), (told, [], 1))
        words = [deed[0] for deed in deeds]
        ends = [end for word in words for end in (("in", word), ("out", word))]
        self.assertEqual(bench.log(), [("in", "do")] + ends + [("out", "do")])
        self.assertIs(bench.undo(), True)
        self.assertEqual(snapshot(bench), before)
        self.assertEqual(bench.log()[-2:], [("in", "undo"), ("out", "undo")])
        self.assertIs(bench.undo(), False)
        # As a tuple, too.
        self.assertEqual(bench.do(tuple(deeds))[3], (("a", "b"), ("a", "d")))
        self.assertEqual(bench.table(), told)

    def test_none(self):
        bench = Bench(sample_table())
        self.check_done(bench, [], sample_table(), lambda: bench.do([]), "do")
        self.assertEqual(bench.do(deeds=()), [])
        self.assertEqual(bench.deeds(), 2)

    def test_refused_in_the_midst(self):
        bench = Bench(sample_table())
        bench.say("s", BREAKS)
        for deed, made, field, told in (
                (("add", "a", (), ()), Known, "name", "a"), (("add", "f", ("z",), ()), NoState, "name", "z"),
                (("add", "f", ("a", "a"), ()), BadTable, "part", "moves"), (("drop", "z"), NoState, "name", "z"),
                (("link", "b", "b"), Known, "name", ("b", "b")), (("cut", "b", "b"), None, None, None),
                (("cut", "c", "c"), LastMove, "state", "c"), (("mark", "a", ("x", "x")), BadTable, "part", "shows"),
                (("begin", "a"), Known, "name", "a"), (("unbegin", "b"), NoState, "name", "b"),
                (("say", "s", NONE), Known, "name", "s"), (("unsay", "z"), NoSaying, "name", "z"),
                (("mend", "z", 1), NoSaying, "name", "z"), (("mend", "n", 2), BadKind, "kind", "some"),
                (("cut", "a", "c"), NoMove, "move", ("a", "c"))):
            ahead = [("link", "b", "b"), ("say", "n", NONE), ("mark", "b", ("x",))]
            behind = [("drop", "z"), ("begin", "b")]
            if made is None:
                self.assertEqual(bench.do(ahead + [deed]), [None] * 4)
                self.assertIs(bench.undo(), True)
                continue
            before, log = snapshot(bench), bench.log()
            with self.assertRaises(made) as caught:
                bench.do(ahead + [deed] + behind)
            self.assertIs(type(caught.exception), made)
            self.assertEqual(vars(caught.exception), {field: told})
            self.assertEqual(snapshot(bench), before)
            words = ["link", "say", "mark", deed[0]]
            ends = [end for word in words for end in (("in", word), ("out", word))]
            self.assertEqual(bench.log(), log + [("in", "do")] + ends + [("out", "do")])

    def test_refused_at_first_and_at_last(self):
        bench = Bench(sample_table())
        self.check_refused(bench, NoState, "name", "z", lambda: bench.do([("drop", "z"), ("drop", "b")]), "do", "drop")
        before = snapshot(bench)
        with self.assertRaises(LastBegin):
            bench.do([("unbegin", "a"), ("unbegin", "c")])
        self.assertEqual(snapshot(bench), before)

    def test_each_by_what_stands_then(self):
        bench = Bench(sample_table())
        bench.do([("drop", "b"), ("add", "b", ("c",), ()), ("link", "a", "b"), ("say", "s", BREAKS), ("unsay", "s"),
                  ("say", "s", HOLDS)])
        self.assertEqual(bench.table().moves, (("a", "a"), ("a", "b"), ("b", "c"), ("c", "c")))
        self.assertEqual(bench.saying("s"), HOLDS)


class UndoTest(Checks):

    def test_to_the_first_deed(self):
        bench = Bench(sample_table())
        self.assertIs(bench.undo(), False)
        self.assertEqual(bench.log(), [("in", "undo"), ("out", "undo")])
        stood = [snapshot(bench)]
        for deed in (("say", "s", BREAKS), ("link", "a", "c"), ("mend", "s", 2), ("begin", "b"), ("drop", "c")):
            called(bench, deed)
            stood.append(snapshot(bench))
        with self.assertRaises(NoState):
            bench.drop("z")
        for told in stood[::-1]:
            self.assertEqual(snapshot(bench), told)
            self.assertIs(bench.undo(), told is not stood[0])
        self.assertEqual(snapshot(bench), stood[0])
        self.assertIs(bench.undo(), False)

    def test_what_is_refused_is_not_undone(self):
        bench = Bench(sample_table())
        bench.begin("b")
        with self.assertRaises(Known):
            bench.begin("b")
        self.assertIs(bench.undo(), True)
        self.assertEqual(bench, Bench(sample_table()))
        self.assertIs(bench.undo(), False)

    def test_deeds_behind_an_undo(self):
        bench = Bench(sample_table())
        bench.begin("b")
        bench.undo()
        bench.unbegin("a")
        self.assertEqual((bench.table().begins, bench.deeds()), (("c",), 1))
        self.assertIs(bench.undo(), True)
        self.assertEqual(bench.table().begins, ("a", "c"))


class ToldTest(Checks):

    def check(self, table, saying, told):
        bench = Bench(table)
        bench.say("s", saying)
        log = bench.log()
        answer = bench.told("s")
        self.assertEqual((answer, kinds(answer)), (told, kinds(told)))
        self.assertEqual(bench.told(name="s"), told)
        self.assertEqual(bench.broken(), ["s"] if told[0] == "false" else [])
        self.assertEqual((bench.log(), bench.is_open()), (log, False))

    def test_each_kind_true_and_false(self):
        table = sample_table()
        self.check(table, HOLDS, ("true", None))
        self.check(table, BREAKS, ("false", [("a",), ("b",)]))
        self.check(table, ANSWERED, ("true", None))
        self.check(table, UNANSWERED, ("false", [("a",)]))
        self.check(table, SOME, ("true", None))
        self.check(table, NONE, ("false", 1))
        self.check(table, EVER, ("true", None))
        self.check(table, NEVER, ("false", 2))

    def test_beside_what_tells_of_a_table(self):
        chance = random.Random(151)
        told = []
        for _ in range(150):
            hand = HandBench(random_table(chance, 3, 2))
            bench = Bench(hand.table())
            for number in range(3):
                deed = random_deed(chance, hand)
                if deed[0] == "say":
                    bench.say("stu"[number], deed[2])
            false = []
            for name in bench.names():
                kind = kind_of(bench.saying(name))
                ask = {"all": least_break, "answer": least_unanswered}.get(kind, least_none)
                try:
                    least = ask(hand.table(), bench.saying(name))
                except TooGreat as error:
                    with self.assertRaises(TooGreat) as caught:
                        bench.told(name)
                    self.assertEqual(caught.exception.many, error.many)
                    continue
                told.append((kind, least is None))
                false += [name] if least is not None else []
                self.assertEqual(bench.told(name), ("true", None) if least is None else ("false", least))
            self.assertEqual(bench.broken(), false)
        self.assertGreaterEqual(len(set(told)), 7)

    def test_refused(self):
        bench = Bench(full_table(4))
        for ask in (bench.told, bench.saying):
            self.check_refused(bench, NoSaying, "name", "s", lambda ask=ask: ask("s"))
        for saying, many in ((GREAT, 1024), (SET_GREAT, 4 * 2 ** 16), (EVER_GREAT, 4 * 2 ** 16)):
            bench.say("g", saying)
            self.check_refused(bench, TooGreat, "many", many, lambda: bench.told("g"))
            self.assertEqual(bench.broken(), [])
            bench.say("b", BREAKS)
            bench.say("z", NONE)
            self.assertEqual(bench.broken(), ["b"])
            bench.do([("unsay", "g"), ("unsay", "b"), ("unsay", "z")])

    def test_broken_rises(self):
        bench = Bench(sample_table())
        for name, saying in (("z", BREAKS), ("b", UNANSWERED), ("a", HOLDS), ("y", NEVER), ("c", NONE), ("d", SOME)):
            bench.say(name, saying)
        self.assertEqual(bench.broken(), ["b", "c", "y", "z"])
        self.assertEqual(bench.names(), ["a", "b", "c", "d", "y", "z"])
        # Without the move all runs show x for ever.
        bench.mend("z")
        self.assertEqual(bench.broken(), ["b", "c"])

    def test_told_lists_are_the_askers_own(self):
        bench = Bench(sample_table())
        bench.say("s", BREAKS)
        copy = snapshot(bench), bench.log(), bench.told("s")
        bench.told("s")[1].clear()
        bench.names().append("z")
        bench.broken().clear()
        bench.log().clear()
        bench.do([]).append(None)
        bench.undo()
        self.assertEqual((snapshot(bench), bench.log()[:-4], bench.told("s")), copy)


class WaysTest(Checks):

    def bench(self):
        bench = Bench(sample_table())
        bench.say("s", BREAKS)
        bench.do([("begin", "b"), ("link", "a", "c")])
        bench.undo()
        bench.add("d", to=("a", "b"), marks=("y",))
        bench.mend("s")
        return bench

    def test_as_of_each_number(self):
        bench = self.bench()
        self.assertEqual(bench.deeds(), 3)
        states = ["abc", "abc", "abcd", "abcd"]
        for many in range(4):
            other = bench.as_of(many)
            self.assertEqual("".join(other.table().states), states[many])
            self.assertEqual((other.deeds(), other.log(), other.is_open(), type(other)), (many, [], False, Bench))
            self.assertEqual(bench.as_of(many=many), other)
            # Undone there, back to where all began.
            for left in range(many)[::-1]:
                self.assertIs(other.undo(), True)
                self.assertEqual(other, bench.as_of(left))
            self.assertIs(other.undo(), False)
            self.assertEqual(other, Bench(sample_table()))
        for many in (4, 5, 60, 10 ** 6000):
            self.check_refused(bench, NoDeed, "many", many, lambda many=many: bench.as_of(many))

    def test_a_bench_of_its_own(self):
        bench = self.bench()
        for make in (bench.twin, lambda: bench.as_of(2), lambda: bench.as_of(3)):
            other = make()
            before, log = snapshot(bench), bench.log()
            other.add("e")
            other.unsay("s")
            other.undo()
            other.undo()
            other.undo()
            other.begin("b")
            self.assertEqual((snapshot(bench), bench.log()), (before, log))
            other = make()
            before = snapshot(other)
            bench.begin("b")
            bench.undo()
            bench.undo()
            bench.mend("s")
            self.assertEqual((snapshot(other), other.log()), (before, []))

    def test_twin(self):
        bench = self.bench()
        twin = bench.twin()
        self.assertEqual(twin, bench)
        self.assertEqual(snapshot(twin), snapshot(bench))
        self.assertEqual(twin.log(), [])
        twin.undo()
        self.assertEqual(twin, bench.as_of(2))
        self.assertEqual(twin.log(), [("in", "undo"), ("out", "undo")])
        self.assertEqual(bench.deeds(), 3)

    def test_log(self):
        words = ["say", "do", "begin", "link", "undo", "add", "mend"]
        ends = [("in", "say"), ("out", "say"), ("in", "do"), ("in", "begin"), ("out", "begin"), ("in", "link"),
                ("out", "link"), ("out", "do")]
        ends += [(end, word) for word in words[4:] for end in ("in", "out")]
        log = self.bench().log()
        self.assertEqual((log, kinds(log)), (ends, kinds(ends)))

    def test_equal(self):
        bench = Bench(sample_table())
        for other in (Bench(sample_table()), bench.twin()):
            self.assertTrue(bench == other)
            self.assertFalse(bench != other)
        bench.say("s", BREAKS)
        bench.say("t", HOLDS)
        self.assertFalse(bench == other)
        # By other ways.
        other.say("t", HOLDS)
        other.say("r", BREAKS)
        self.assertFalse(bench == other)
        other.unsay("r")
        other.say("s", BREAKS)
        other.do([("begin", "b"), ("unbegin", "b")])
        self.assertTrue(bench == other)
        self.assertNotEqual((bench.deeds(), bench.log()), (other.deeds(), other.log()))
        other.do([("unsay", "s"), ("say", "s", HOLDS)])
        self.assertFalse(bench == other)
        other.undo()
        other.mark("b", ("x",))
        self.assertFalse(bench == other)
        for odd in (None, sample_table(), 0, "Bench(2)", (), [], {}):
            self.assertFalse(bench == odd)
            self.assertTrue(bench != odd)

    def test_len_repr_and_bool(self):
        bench = Bench(table=sample_table())
        for many, name in enumerate("stuvwxyz"):
            self.assertEqual((len(bench), repr(bench), bool(bench)), (many, f"Bench({many})", many > 0))
            bench.say(name, BREAKS)
        self.assertEqual((len(bench), repr(bench)), (8, "Bench(8)"))

    def test_sixty_deeds(self):
        bench = Bench(sample_table())
        for number in range(30):
            bench.begin("b")
            bench.unbegin("b")
        self.assertEqual(bench.deeds(), 60)
        for many in range(60):
            self.assertIs(bench.undo(), True)
        self.assertIs(bench.undo(), False)


class HandedInTest(Checks):

    def test_the_table_is_kept_by_no_name_but_the_bench(self):
        table = sample_table()
        bench = Bench(table)
        table.begins = ("a",)
        self.assertEqual(bench.table(), sample_table())
        bench.table().moves = ()
        self.assertEqual(bench.table(), sample_table())
        self.assertIsNot(bench.table(), bench.table())
        bench.twin().table().states = ()
        self.assertEqual(bench.twin().table(), sample_table())

    def test_lists_are_not_kept(self):
        bench = Bench(sample_table())
        to, marks = ["a", "d"], ["y", "x"]
        bench.add("d", to=to, marks=marks)
        bench.mark("b", marks)
        self.assertEqual((to, marks), (["a", "d"], ["y", "x"]))
        deeds = [("add", "e", to, marks), ("mark", "c", marks)]
        bench.do(deeds)
        before = snapshot(bench)
        to.clear()
        marks.append("z")
        deeds.clear()
        self.assertEqual(snapshot(bench), before)
        bench.undo()
        self.assertEqual(bench.table().marks_of("d"), ("x", "y"))


class Asking(list):
    """A list that asks a bench whether it's open, whenever it's gone through."""

    def __init__(self, bench, things):
        super().__init__(things)
        self.bench = bench
        self.told = []

    def __iter__(self):
        for thing in list.__iter__(self):
            self.told.append(self.bench.is_open())
            yield thing
        self.told.append(self.bench.is_open())


class OpenTest(Checks):

    def test_open_in_the_midst_alone(self):
        bench = Bench(sample_table())
        for deeds, refused in (([("begin", "b"), ("unbegin", "b"), ("link", "b", "b")], False), ([], False),
                               ([("begin", "b"), ("begin", "b")], True)):
            for _ in range(2):
                asking = Asking(bench, deeds)
                if refused:
                    with self.assertRaises(Known):
                        bench.do(asking)
                else:
                    bench.do(asking)
                    bench.undo()
                self.assertEqual(asking.told, [True] * (len(deeds) + (not refused)))
                self.assertIs(bench.is_open(), False)
        for to in (["a"], ["a", "b"], ["z"]):
            asking = Asking(bench, to)
            if to == ["z"]:
                with self.assertRaises(NoState):
                    bench.add("d", to=asking)
            else:
                bench.add("d", to=asking)
                bench.undo()
            self.assertEqual(set(asking.told), {True})
            self.assertIs(bench.is_open(), False)


class RandomTest(Checks):

    def test_deeds_undone_and_refused_ones_among_them(self):
        chance = random.Random(152)
        names = []
        for _ in range(60):
            bench = Bench(random_table(chance, 3, 2))
            hands, log = [HandBench(bench.table())], []
            for _ in range(25):
                if chance.random() < 0.15:
                    self.assertIs(bench.undo(), len(hands) > 1)
                    hands = hands[:-1] if len(hands) > 1 else hands
                    log += [("in", "undo"), ("out", "undo")]
                elif chance.random() < 0.3:
                    names.append(self.do_some(chance, bench, hands, log))
                else:
                    deed = random_deed(chance, hands[-1])
                    names.append(self.do_one(bench, hands, deed))
                    log += [("in", deed[0]), ("out", deed[0])]
                self.check_stands(bench, hands, log)
        for name in ("Known", "NoState", "LastMove", "LastBegin", "BadTable", "NoMend", "do", "do refused", "mend"):
            self.assertGreater(names.count(name), 3, name)

    def do_one(self, bench, hands, deed):
        copy = deep_copy(deed)
        try:
            hand, told = hands[-1].after(deed)
        except Refused as refused:
            with self.assertRaises(Exception) as caught:
                called(bench, deed)
            self.assertEqual(refusal_of(caught.exception), refused.told)
            return refused.told[0]
        self.assertEqual(called(bench, deed), told)
        self.assertEqual(deed, copy)
        hands.append(hand)
        return deed[0]

    def do_some(self, chance, bench, hands, log):
        hand, deeds, told, refused = hands[-1], [], [], None
        log.append(("in", "do"))
        for _ in range(chance.randint(0, 4)):
            deeds.append(random_deed(chance, hand))
            if refused is None:
                log += [("in", deeds[-1][0]), ("out", deeds[-1][0])]
                try:
                    hand, answer = hand.after(deeds[-1])
                    told.append(answer)
                except Refused as error:
                    refused = error
        log.append(("out", "do"))
        if refused is None:
            self.assertEqual(bench.do(deeds), told)
            hands.append(hand)
            return "do"
        with self.assertRaises(Exception) as caught:
            bench.do(deeds)
        self.assertEqual(refusal_of(caught.exception), refused.told)
        return "do refused"

    def check_stands(self, bench, hands, log):
        self.assertEqual((bench.log(), bench.is_open(), bench.deeds()), (log, False, len(hands) - 1))
        hand = hands[-1]
        self.assertEqual(bench.table(), hand.table())
        self.assertEqual({name: bench.saying(name) for name in bench.names()}, hand.sayings)
        self.assertEqual((bench.names(), len(bench)), (sorted(hand.sayings), len(hand.sayings)))
        many = len(hands) // 2
        self.assertEqual(bench.as_of(many).table(), hands[many].table())
        fresh = Bench(hand.table())
        for name, saying in hand.sayings.items():
            fresh.say(name, saying)
        self.assertTrue(fresh == bench)
        self.assertEqual(fresh.broken(), bench.broken())
        for name in bench.broken():
            self.assertEqual(fresh.told(name), bench.told(name))


class MendedTest(Checks):

    def test_the_told_moves_are_the_least_mends(self):
        chance = random.Random(153)
        mended = 0
        for _ in range(150):
            table = random_table(chance, 4, 3)
            bench = Bench(table)
            bench.say("s", BREAKS)
            told = least_mend(table, BREAKS)
            if told is None:
                self.check_refused(bench, NoMend, None, None, lambda: bench.mend("s"), "mend")
            else:
                mended += 1
                self.assertEqual(bench.mend("s"), told)
                self.assertEqual((bench.table(), bench.told("s")), (table.without(told), ("true", None)))
        self.assertGreater(mended, 30)


if __name__ == "__main__":
    unittest.main()
