"""Tables: [4], and [2] and [3] as far as they speak of tables."""

import itertools
import unittest

from manyruns.errors import BadTable, LastMove
from manyruns.tables import Table
from tests.helpers import as_list, changed, kinds, nested

STATES = ("a", "b", "c")
MOVES = (("a", "a"), ("a", "b"), ("b", "a"), ("b", "c"), ("c", "c"))
BEGINS = ("a", "c")
SHOWS = (("a", ("x",)), ("c", ("w", "x", "y", "z")))
PARTS = ("states", "moves", "begins", "shows")


def sample():
    return Table(STATES, MOVES, begins=BEGINS, shows=SHOWS)


def fields(table):
    return (table.states, table.moves, table.begins, table.shows)


class TableCase(unittest.TestCase):

    def check_refused(self, part, states=STATES, moves=MOVES, begins=BEGINS, shows=SHOWS):
        with self.assertRaises(ValueError) as caught:
            Table(states, moves, begins=begins, shows=shows)
        self.assertIs(type(caught.exception), BadTable)
        self.assertEqual(caught.exception.part, part)
        self.assertIs(type(caught.exception.part), str)


class MakingTest(TableCase):

    def check_made(self, states, moves, begins, shows):
        told = (states, moves, begins, shows)
        table = Table(states, moves, begins=begins, shows=shows)
        self.assertEqual(fields(table), told)
        self.assertEqual(kinds(fields(table)), kinds(told))
        self.assertEqual(len(table), len(moves))
        self.assertEqual(repr(table), f"Table({len(states)})")
        for state in states:
            self.assertEqual(table.next_of(state), [other for one, other in moves if one == state])
            self.assertEqual(table.marks_of(state), dict(shows).get(state, ()))

    def test_one_state_and_one_move(self):
        self.check_made(("a",), (("a", "a"),), ("a",), ())

    def test_one_to_eight_states_in_a_ring(self):
        for many in range(1, 9):
            states = tuple("abcdefgh"[:many])
            moves = tuple((state, states[(at + 1) % many]) for at, state in enumerate(states))
            with self.subTest(many=many):
                self.check_made(states, moves, states[:1], ())
                self.check_made(states, moves, states, tuple((state, ("m",)) for state in states))

    def test_eight_states_and_as_many_moves_as_there_may_be(self):
        states = tuple("abcdefgh")
        for ways in (1, 2, 3):
            moves = tuple(sorted((one, states[(at + way) % 8]) for at, one in enumerate(states) for way in range(ways)))
            with self.subTest(ways=ways):
                self.check_made(states, moves, ("h",), ())
        self.assertEqual(len(moves), 24)

    def test_twenty_four_moves_of_five_states(self):
        states = tuple("abcde")
        moves = tuple(itertools.product(states, states))
        for at in range(25):
            with self.subTest(left_out=moves[at]):
                self.check_made(states, moves[:at] + moves[at + 1:], ("a", "e"), ())

    def test_one_to_four_marks(self):
        marks = ("k", "l", "m", "n")
        for many in range(1, 5):
            with self.subTest(many=many):
                self.check_made(STATES, MOVES, BEGINS, tuple((state, marks[:many]) for state in STATES))
        self.check_made(STATES, MOVES, BEGINS, (("a", ("z",)), ("b", ("k", "z")), ("c", ("a", "b", "c"))))

    def test_names_of_one_to_eight_letters(self):
        states = ("a", "ab", "abcdefgh", "z", "zzzzzzzz")
        moves = tuple((state, state) for state in states)
        self.check_made(states, moves, states, (("abcdefgh", ("a", "abcdefgh")), ("z", ("z", "zzzzzzzz"))))

    def test_marks_may_be_called_as_states_are(self):
        self.check_made(STATES, MOVES, BEGINS, (("a", ("a", "b")), ("b", ("a",))))

    def test_any_states_may_begin_and_any_may_show(self):
        for many in range(1, 4):
            for some in itertools.combinations(STATES, many):
                with self.subTest(some=some):
                    self.check_made(STATES, MOVES, some, tuple((state, ("m",)) for state in some))

    def test_shows_left_out(self):
        table = Table(STATES, MOVES, begins=BEGINS)
        self.assertEqual(table.shows, ())
        self.assertEqual(table, Table(STATES, MOVES, begins=BEGINS, shows=()))
        self.assertEqual([table.marks_of(state) for state in STATES], [(), (), ()])

    def test_arguments_by_name_in_another_order(self):
        self.assertEqual(fields(Table(shows=SHOWS, begins=BEGINS, moves=MOVES, states=STATES)), fields(sample()))
        self.assertEqual(fields(Table(STATES, shows=SHOWS, moves=MOVES, begins=BEGINS)), fields(sample()))
        self.assertEqual(Table(begins=BEGINS, moves=MOVES, states=STATES).shows, ())

    def test_begins_and_shows_are_handed_in_by_name_alone(self):
        with self.assertRaises(TypeError):
            Table(STATES, MOVES, BEGINS)
        with self.assertRaises(TypeError):
            Table(STATES, MOVES, BEGINS, SHOWS)
        with self.assertRaises(TypeError):
            Table(STATES, MOVES, SHOWS, begins=BEGINS)

    def test_begins_and_the_others_are_not_left_out(self):
        with self.assertRaises(TypeError):
            Table(STATES, MOVES)
        with self.assertRaises(TypeError):
            Table(STATES, begins=BEGINS)
        with self.assertRaises(TypeError):
            Table(moves=MOVES, begins=BEGINS)

    def test_fields_may_be_handed_in_again(self):
        table = sample()
        again = Table(table.states, table.moves, begins=table.begins, shows=table.shows)
        self.assertEqual(again, table)
        self.assertIsNot(again, table)


class RefusedTest(TableCase):

    def check_each_refused(self, part, things):
        for at, thing in enumerate(things):
            with self.subTest(part=part, at=at):
                self.check_refused(part, **{part: thing})

    def test_states(self):
        self.check_each_refused("states", (
            (), ("a", "b", "c", ""), ("a", "b", "cdefghijk"), ("A", "b", "c"), ("a", "bC"), ("a", "b", "c1"),
            ("a", "b c"), ("a", "b\n"), ("a", "b", "\u00e9"), ("b", "a", "c"), ("a", "c", "b"), ("a", "a"),
            ("a", "b", "b"), ("a", "b", "c", "a"), ["a", "b", "c"], [], (["a"], "b"), (("a",), "b"), "abc", "a",
            None, True, False, 0, 3, 10 ** 5000, ("a", True), ("a", 1), ("a", None), (1, 2, 3), (None,),
            ("a", "b", "c", 1), (True, False), nested(20, "a", tuple), nested(20, "a", list), tuple("abcdefghi"),
            tuple("abcdefghijklmnopqrstuvwxyz"),
        ))

    def test_nine_states_with_a_move_each(self):
        states = tuple("abcdefghi")
        moves = tuple((state, state) for state in states)
        self.check_refused("states", states, moves, ("a",), ())
        self.assertEqual(len(Table(states[:8], moves[:8], begins=("a",))), 8)

    def test_moves(self):
        self.check_each_refused("moves", (
            (), MOVES[1:4], MOVES[:2], MOVES[2:], MOVES[:4], (("a", "b"), ("c", "c")), tuple(reversed(MOVES)),
            MOVES[1:] + MOVES[:1], MOVES + MOVES[-1:], MOVES[:1] + MOVES, list(MOVES), as_list(MOVES),
            tuple(list(move) for move in MOVES), MOVES + (("c", "d"),), MOVES + (("d", "a"),), MOVES + (("c", "cc"),),
            MOVES + (("c",),), MOVES + (("c", "c", "c"),), MOVES + ((),), MOVES + ("cd",), MOVES + ("c",),
            MOVES + (None,), MOVES + (True,), MOVES + (1,), MOVES + (("c", None),), MOVES + (("c", True),),
            MOVES + (("c", 1),), MOVES + ((1, "c"),), MOVES + (("c", ("c",)),), MOVES + (("c", ["c"]),), MOVES + ([],),
            "ab", "", None, True, False, 0, 5, {}, nested(20, ("a", "a"), tuple), nested(20, "a", list),
        ))

    def test_each_state_begins_a_move(self):
        for state in STATES:
            moves = tuple(move for move in MOVES if move[0] != state)
            with self.subTest(state=state):
                self.check_refused("moves", moves=moves)
                self.check_refused("moves", moves=tuple((one, other) for one, other in MOVES if other == state))
        self.check_refused("moves", ("a", "b"), (("a", "b"),), ("a",), ())

    def test_twenty_five_moves(self):
        states = tuple("abcde")
        self.check_refused("moves", states, tuple(itertools.product(states, states)), ("a",), ())
        states = tuple("abcdefgh")
        moves = tuple(sorted([(one, other) for one in states for other in ("a", "b", "c")] + [("d", "d")]))
        self.assertEqual(len(moves), 25)
        self.check_refused("moves", states, moves, ("a",), ())
        self.check_refused("moves", states, tuple(itertools.product(states, states)), ("a",), ())

    def test_begins(self):
        self.check_each_refused("begins", (
            (), ("c", "a"), ("b", "a", "c"), ("a", "a"), ("a", "c", "c"), ("d",), ("a", "d"), ("a", ""), ("A", "a"),
            ["a", "c"], ["a"], [], "a", "ac", "", None, True, False, 0, 1, (None,), (True,), (1,), ("a", None),
            ("a", 1), ("a", True), (("a",),), (["a"],), ("a", ("c",)), {}, nested(20, "a", tuple), nested(20, "a", list),
        ))

    def test_shows(self):
        self.check_each_refused("shows", (
            (("a", ()),), (("a", ("x", "x")),), (("a", ("y", "x")),), (("a", ("k", "l", "m", "n", "o")),),
            (("a", ("x", "")),), (("a", ("X",)),), (("a", ("abcdefghi",)),), (("a", ("x1",)),), (("a", ("x\n",)),),
            (("a", "x"),), (("a", "xy"),), (("a", ["x"]),), (("a", None),), (("a", True),), (("a", 1),),
            (("a", (None,)),), (("a", (True,)),), (("a", (1,)),), (("a", ("x", 1)),), (("a", (("x",),)),),
            (("a", (["x"],)),), (("d", ("x",)),), (("", ("x",)),), ((None, ("x",)),), ((1, ("x",)),),
            ((True, ("x",)),), ((("a",), ("x",)),), ((["a"], ("x",)),), (("a",),), (("a", ("x",), ("y",)),), ((),),
            (["a", ("x",)],), [("a", ("x",))], [], "a", "", "ax", ("ax",), ("a", ("x",)), (None,), (True,), (1,),
            None, True, False, 0, 1, {}, SHOWS[::-1], (("b", ("x",)), ("a", ("x",))),
            (("a", ("x",)), ("a", ("x",))), (("a", ("x",)), ("a", ("y",))), (("a", ("x",)), ("a", ("x", "y"))),
            (("a", ("x",)), ("b", ("x",)), ("b", ("y",))), as_list(SHOWS), list(SHOWS),
            tuple(list(row) for row in SHOWS), nested(20, "a", tuple), nested(20, "a", list),
        ))

    def test_a_thing_of_another_kind_in_any_place(self):
        thing_of = dict(zip(PARTS, (STATES, MOVES, BEGINS, SHOWS)))
        others = (True, False, None, 0, 1, -1, 10 ** 5000, "", "A", "aB", "a1", "abcdefghi", "text row", [], ["a"],
                  [("a", "b")], ("A",), ("a", "B"), ("d", "c", "b", "a"), ("b", "b", "a"), (("b", "a"),),
                  nested(18, "a", tuple), nested(18, "a", list))
        for part in PARTS:
            for other in others:
                for thing in changed(thing_of[part], lambda _, other=other: other):
                    with self.subTest(part=part, kind=kinds(other)):
                        self.check_refused(part, **{part: thing})

    def test_a_list_in_any_tuples_stead(self):
        thing_of = dict(zip(PARTS, (STATES, MOVES, BEGINS, SHOWS)))
        for part in PARTS:
            for thing in changed(thing_of[part], lambda inner: list(inner) if isinstance(inner, tuple) else [inner]):
                with self.subTest(part=part, thing=thing):
                    self.check_refused(part, **{part: thing})

    def test_the_bare_tuple_in_any_place_but_that_of_all_shows(self):
        thing_of = dict(zip(PARTS, (STATES, MOVES, BEGINS, SHOWS)))
        for part in PARTS:
            for thing in changed(thing_of[part], lambda _: ()):
                if (part, thing) != ("shows", ()):
                    with self.subTest(part=part, thing=thing):
                        self.check_refused(part, **{part: thing})

    def test_of_several_wrong_things_the_first_word_goes(self):
        wrongs = {
            "states": ((), ["a", "b", "c"], None, ("a", "b", "C"), tuple("abcdefghi")),
            "moves": ((), None, list(MOVES), MOVES[:2], MOVES + (("c", "d"),)),
            "begins": ((), None, ["a"], ("d",), "a"),
            "shows": (None, [], (("d", ("x",)),), (("a", ()),), "ax"),
        }
        for many in range(1, 5):
            for some in itertools.combinations(PARTS, many):
                for things in zip(*[wrongs[part] for part in some]):
                    with self.subTest(some=some):
                        self.check_refused(some[0], **dict(zip(some, things)))

    def check_all_tuples(self, part, inner, is_so):
        """Of all tuples of up to three of these, just those that are so are taken."""
        given = {"states": ("a", "b"), "moves": (("a", "b"), ("b", "a")), "begins": ("b",), "shows": ()}
        for many in range(4):
            for thing in itertools.product(inner, repeat=many):
                given[part] = thing
                with self.subTest(thing=thing):
                    if is_so(thing):
                        self.assertEqual(getattr(Table(**given), part), thing)
                    else:
                        self.check_refused(part, **given)

    def test_all_small_tuples_of_moves(self):
        def is_so(thing):
            return (list(thing) == sorted(set(thing)) and {one for one, _ in thing} == {"a", "b"}
                    and "c" not in itertools.chain(*thing))
        self.check_all_tuples("moves", list(itertools.product("abc", repeat=2)), is_so)

    def test_all_small_tuples_of_begins(self):
        self.check_all_tuples("begins", ("a", "b", "c", "A"), lambda thing: thing in (("a",), ("b",), ("a", "b")))

    def test_all_small_tuples_of_shows(self):
        def is_so(thing):
            firsts = [state for state, _ in thing]
            return (list(thing) == sorted(thing) and len(set(firsts)) == len(firsts) and "c" not in firsts
                    and all(0 < len(set(marks)) == len(marks) and sorted(marks) == list(marks) for _, marks in thing))
        marks = ((), ("m",), ("n",), ("m", "n"), ("n", "m"), ("m", "m"))
        self.check_all_tuples("shows", list(itertools.product("abc", marks)), is_so)

    def test_states_too_few_for_the_others_are_told_of_the_others(self):
        self.check_refused("moves", ("a", "b"))
        self.check_refused("begins", ("a", "b"), (("a", "b"), ("b", "a")))
        self.check_refused("shows", ("a", "b"), (("a", "b"), ("b", "a")), ("a",))

    def test_a_refused_list_is_not_changed(self):
        states, moves, begins, shows = (as_list(thing) for thing in (STATES, MOVES, BEGINS, SHOWS))
        self.check_refused("states", states, moves, begins, shows)
        self.check_refused("moves", STATES, moves, begins, shows)
        self.check_refused("begins", STATES, MOVES, begins, shows)
        self.check_refused("shows", STATES, MOVES, BEGINS, shows)
        told = [as_list(thing) for thing in (STATES, MOVES, BEGINS, SHOWS)]
        self.assertEqual([states, moves, begins, shows], told)


class AskingTest(TableCase):

    def test_marks_of(self):
        table = sample()
        self.assertEqual(table.marks_of("a"), ("x",))
        self.assertEqual(table.marks_of("b"), ())
        self.assertEqual(table.marks_of("c"), ("w", "x", "y", "z"))
        self.assertEqual(table.marks_of(state="c"), ("w", "x", "y", "z"))
        for state in STATES:
            self.assertIs(type(table.marks_of(state)), tuple)

    def test_next_of(self):
        table = sample()
        self.assertEqual(table.next_of("a"), ["a", "b"])
        self.assertEqual(table.next_of("b"), ["a", "c"])
        self.assertEqual(table.next_of(state="c"), ["c"])

    def test_next_of_tells_where_moves_lead_to_not_where_they_come_from(self):
        table = Table(("a", "b"), (("a", "b"), ("b", "b")), begins=("a",))
        self.assertEqual((table.next_of("a"), table.next_of("b")), (["b"], ["b"]))

    def test_a_told_list_is_the_askers_own(self):
        table = sample()
        first = table.next_of("a")
        self.assertIsNot(first, table.next_of("a"))
        first.append("z")
        first[0] = "y"
        self.assertEqual(table.next_of("a"), ["a", "b"])
        table.next_of("c").clear()
        self.assertEqual(table.next_of("c"), ["c"])
        self.assertEqual(fields(table), (STATES, MOVES, BEGINS, SHOWS))

    def test_asking_changes_nothing(self):
        table = sample()
        for _ in range(3):
            self.assertEqual([table.marks_of(state) for state in STATES], [("x",), (), ("w", "x", "y", "z")])
            self.assertEqual([table.next_of(state) for state in STATES], [["a", "b"], ["a", "c"], ["c"]])
            self.assertEqual((len(table), repr(table), bool(table)), (5, "Table(3)", True))
        self.assertEqual(fields(table), (STATES, MOVES, BEGINS, SHOWS))

    def test_len_is_how_many_moves(self):
        self.assertEqual(len(sample()), 5)
        self.assertEqual(len(Table(("a",), (("a", "a"),), begins=("a",))), 1)

    def test_bool_is_true_as_len_is_never_0(self):
        self.assertIs(bool(Table(("a",), (("a", "a"),), begins=("a",))), True)

    def test_repr_tells_how_many_states(self):
        self.assertEqual(repr(sample()), "Table(3)")
        self.assertEqual(repr(Table(("a",), (("a", "a"),), begins=("a",))), "Table(1)")
        self.assertEqual(str(sample()), "Table(3)")


class WithoutTest(TableCase):

    def check_refused_without(self, state, moves, table=None):
        with self.assertRaises(RuntimeError) as caught:
            (table or sample()).without(moves)
        self.assertIs(type(caught.exception), LastMove)
        self.assertEqual(caught.exception.state, state)

    def test_without_no_moves(self):
        table = sample()
        for none in ((), []):
            told = table.without(none)
            self.assertEqual(told, table)
            self.assertIsNot(told, table)

    def test_without_some_in_any_order_in_lists_and_tuples(self):
        some = (("a", "a"), ("b", "c"))
        told = Table(STATES, (("a", "b"), ("b", "a"), ("c", "c")), begins=BEGINS, shows=SHOWS)
        for moves in (some, some[::-1], list(some), list(some[::-1])):
            with self.subTest(moves=moves):
                self.assertEqual(fields(sample().without(moves)), fields(told))
        self.assertEqual(sample().without(moves=some), told)

    def test_without_each_move(self):
        for move in MOVES[:4]:
            table = sample().without([move])
            with self.subTest(move=move):
                self.assertEqual(fields(table), (STATES, tuple(one for one in MOVES if one != move), BEGINS, SHOWS))
                self.assertEqual(kinds(fields(table)), kinds((STATES, MOVES[1:], BEGINS, SHOWS)))
                self.assertEqual((len(table), repr(table)), (4, "Table(3)"))

    def test_one_move_twice(self):
        self.assertEqual(sample().without([("a", "a"), ("a", "a")]), sample().without([("a", "a")]))

    def test_one_step_behind_the_other(self):
        self.assertEqual(sample().without([("a", "a")]).without([("b", "c")]),
                         sample().without([("a", "a"), ("b", "c")]))

    def test_all_subsets(self):
        for many in range(len(MOVES) + 1):
            for some in itertools.permutations(MOVES, many):
                left = tuple(move for move in MOVES if move not in some)
                lost = [state for state in STATES if state not in [one for one, _ in left]]
                with self.subTest(some=some):
                    if lost:
                        self.check_refused_without(lost[0], some)
                        self.check_refused_without(lost[0], list(some))
                    else:
                        self.assertEqual(fields(sample().without(some)), (STATES, left, BEGINS, SHOWS))

    def test_last_move_of_the_first_state_that_would_have_none(self):
        self.check_refused_without("c", [("c", "c")])
        self.check_refused_without("b", [("c", "c"), ("b", "a"), ("b", "c")])
        self.check_refused_without("b", (("b", "c"), ("c", "c"), ("a", "b"), ("b", "a")))
        self.check_refused_without("a", MOVES[::-1])
        self.check_refused_without("a", list(MOVES))

    def test_the_first_state_may_not_be_one_that_begins(self):
        table = Table(("a", "b"), (("a", "b"), ("b", "a")), begins=("b",))
        self.check_refused_without("a", [("b", "a"), ("a", "b")], table)
        self.check_refused_without("b", [("b", "a")], table)

    def test_the_table_and_what_was_handed_in_are_unchanged(self):
        table = sample()
        for moves in ([], [("b", "c"), ("a", "a")], [("c", "c"), ("a", "a")]):
            told = list(moves)
            try:
                table.without(moves)
            except LastMove:
                pass
            with self.subTest(moves=told):
                self.assertEqual(moves, told)
                self.assertEqual(fields(table), (STATES, MOVES, BEGINS, SHOWS))
                self.assertEqual([table.next_of(state) for state in STATES], [["a", "b"], ["a", "c"], ["c"]])

    def test_a_list_changed_later_changes_no_table(self):
        moves = [("a", "a")]
        table = sample().without(moves)
        moves.append(("b", "a"))
        moves[0] = ("c", "c")
        self.assertEqual(table.moves, MOVES[1:])

    def test_twenty_four_moves(self):
        states = tuple("abcdefgh")
        moves = tuple(itertools.product(states, ("a", "d", "h")))
        table = Table(states, moves, begins=("a",))
        self.assertEqual(table.without(moves[::3]).moves, tuple(move for move in moves if move[1] != "a"))
        self.check_refused_without("h", moves[21:], table)
        self.check_refused_without("g", moves[18:], table)


class EqualTest(TableCase):

    def test_alike_in_all_four_fields(self):
        self.assertTrue(sample() == sample())
        self.assertFalse(sample() != sample())
        table = sample()
        self.assertTrue(table == table)

    def test_differing_in_one_field(self):
        others = (
            Table(("a", "b", "d"), (("a", "a"), ("a", "b"), ("b", "a"), ("b", "d"), ("d", "d")), begins=("a", "d"),
                  shows=(("a", ("x",)), ("d", ("w", "x", "y", "z")))),
            Table(STATES, MOVES[1:], begins=BEGINS, shows=SHOWS),
            Table(STATES, MOVES[:4] + (("c", "a"),), begins=BEGINS, shows=SHOWS),
            Table(STATES, MOVES, begins=("a",), shows=SHOWS),
            Table(STATES, MOVES, begins=("a", "b"), shows=SHOWS),
            Table(STATES, MOVES, begins=BEGINS, shows=SHOWS[:1]),
            Table(STATES, MOVES, begins=BEGINS, shows=(("a", ("y",)),) + SHOWS[1:]),
            Table(STATES, MOVES, begins=BEGINS),
        )
        for one, other in itertools.permutations(others + (sample(),), 2):
            with self.subTest(one=fields(one), other=fields(other)):
                self.assertIs(one == other, False)
                self.assertIs(one != other, True)

    def test_states_alone_may_differ(self):
        class Other(Table):
            """A table whose states were changed by hand, the others standing."""

        one = sample()
        other = Other(STATES, MOVES, begins=BEGINS, shows=SHOWS)
        self.assertTrue(one == other)
        other.states = STATES + ("d",)
        self.assertFalse(one == other)

    def test_to_nothing_of_another_class(self):
        class Alike:
            """It has a table's fields, but is none."""

            states, moves, begins, shows = STATES, MOVES, BEGINS, SHOWS

        others = (None, True, False, 0, 5, "Table(3)", "", (), [], STATES, (STATES, MOVES, BEGINS, SHOWS), MOVES,
                  {}, Alike(), Alike, Table, object())
        for other in others:
            with self.subTest(other=other):
                self.assertIs(sample() == other, False)
                self.assertIs(other == sample(), False)
                self.assertIs(sample() != other, True)


if __name__ == "__main__":
    unittest.main()
