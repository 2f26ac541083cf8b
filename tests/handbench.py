"""A bench by hand, straight by the words of [16], for several tests."""

import re

from manyruns.bodies import is_saying, kind_of
from manyruns.errors import BadKind, TooGreat
from manyruns.mends import least_mend
from manyruns.tables import Table
from tests.helpers import random_body, random_heads

NAME = re.compile("[a-z]{1,8}")


class Refused(Exception):
    """The class's name, and its field's thing if it has one."""

    def __init__(self, name, *field):
        self.told = (name, *field)


class HandBench:
    """States, moves, begins as lists, marks by states, sayings by names; all deeds done one by one, and told."""

    def __init__(self, table):
        self.states = list(table.states)
        self.moves = list(table.moves)
        self.begins = list(table.begins)
        self.shows = {state: list(marks) for state, marks in table.shows}
        self.sayings = {}

    def copy(self):
        other = HandBench(self.table())
        other.sayings = dict(self.sayings)
        return other

    def table(self):
        return Table(tuple(sorted(self.states)), tuple(sorted(self.moves)), begins=tuple(sorted(self.begins)),
                     shows=tuple(sorted((state, tuple(sorted(marks))) for state, marks in self.shows.items())))

    def check_whole(self):
        """Refused as the table would be, of states, then moves, then what is shown."""
        if len(self.states) > 8 or not all(NAME.fullmatch(state) for state in self.states):
            raise Refused("BadTable", "states")
        if len(self.moves) > 24 or len(set(self.moves)) < len(self.moves):
            raise Refused("BadTable", "moves")
        for marks in self.shows.values():
            if len(marks) > 4 or len(set(marks)) < len(marks) or not all(NAME.fullmatch(mark) for mark in marks):
                raise Refused("BadTable", "shows")

    def need(self, state):
        if state not in self.states:
            raise Refused("NoState", state)

    def many_from(self, state):
        return len([move for move in self.moves if move[0] == state])

    def after(self, deed):
        """The bench behind this deed and what it tells; refused, it's this one still."""
        other = self.copy()
        told = getattr(other, "do_" + deed[0])(*deed[1:])
        other.check_whole()
        return other, told

    def do_add(self, state, to, marks):
        if state in self.states:
            raise Refused("Known", state)
        for other in to:
            if other not in self.states + [state]:
                raise Refused("NoState", other)
        self.states.append(state)
        self.moves += [(state, other) for other in to] or [(state, state)]
        self.do_mark(state, marks)

    def do_drop(self, state):
        self.need(state)
        if self.begins == [state]:
            raise Refused("LastBegin")
        self.moves = [move for move in self.moves if state not in move]
        for other in sorted(self.states):
            if other != state and not self.many_from(other):
                raise Refused("LastMove", other)
        self.states.remove(state)
        self.begins = [other for other in self.begins if other != state]
        self.shows.pop(state, None)

    def do_link(self, one, other):
        self.need(one)
        self.need(other)
        if (one, other) in self.moves:
            raise Refused("Known", (one, other))
        self.moves.append((one, other))

    def do_cut(self, one, other):
        self.need(one)
        self.need(other)
        if (one, other) not in self.moves:
            raise Refused("NoMove", (one, other))
        if self.many_from(one) == 1:
            raise Refused("LastMove", one)
        self.moves.remove((one, other))

    def do_mark(self, state, marks):
        self.need(state)
        self.shows.pop(state, None)
        if len(marks):
            self.shows[state] = list(marks)

    def do_begin(self, state):
        self.need(state)
        if state in self.begins:
            raise Refused("Known", state)
        self.begins.append(state)

    def do_unbegin(self, state):
        if state not in self.begins:
            raise Refused("NoState", state)
        if len(self.begins) == 1:
            raise Refused("LastBegin")
        self.begins.remove(state)

    def do_say(self, name, saying):
        if name in self.sayings:
            raise Refused("Known", name)
        self.sayings[name] = saying

    def do_unsay(self, name):
        if name not in self.sayings:
            raise Refused("NoSaying", name)
        del self.sayings[name]

    def do_mend(self, name, most):
        if name not in self.sayings:
            raise Refused("NoSaying", name)
        try:
            moves = least_mend(self.table(), self.sayings[name], most=most)
        except BadKind:
            raise Refused("BadKind", kind_of(self.sayings[name])) from None
        except TooGreat as error:
            raise Refused("TooGreat", error.many) from None
        if moves is None:
            raise Refused("NoMend")
        self.moves = [move for move in self.moves if move not in moves]
        return moves


def refusal_of(error):
    """A refusal's class by name, and its field's thing if it has one."""
    return (type(error).__name__, *vars(error).values())


def random_saying(chance):
    """A saying of any kind; of kind all most often."""
    while True:
        words = chance.choice((("all",),) * 4 + (("all", "all"), ("some",), ("all", "some"), ("some", "all"),
                                                 ("all",) * 3))
        heads = random_heads(chance, words, len(words))
        body = random_body(chance, [run for _, run in heads], chance.randint(1, 3))
        saying = heads, chance.choice((body, ("not", ("ahead", body)), ("or", body, ("not", ("ahead", body)))))
        if is_saying(saying):
            return saying


def random_deed(chance, bench):
    """A deed, often one that is refused, of names that are there or not."""
    def state():
        return chance.choice(bench.states + ["k", "m"] + (["", "A", "abcdefghi", "a b"] if chance.random() < 0.1 else []))

    def some(names):
        return chance.choice((tuple, list))(chance.choice(names) for _ in range(chance.choice((0, 1, 1, 2, 2, 3, 5))))

    word = chance.choice(("add", "add", "add", "drop", "link", "link", "cut", "mark", "begin", "unbegin", "say", "say",
                          "unsay", "mend", "mend"))
    if word == "add":
        new = chance.choice(("d", "e", "f", "g", "h", "i", "j", state()))
        to = some([state(), state(), new]) if chance.random() < 0.5 else chance.sample(bench.states, 1)
        return word, new, to, some(["x", "y", "z", chance.choice(("w", "v", "Z"))])
    if word in ("link", "cut"):
        return (word, *chance.choice(bench.moves)) if word == "cut" and chance.random() < 0.6 else (word, state(), state())
    if word == "mark":
        return word, state(), some(["x", "y", "z", chance.choice(("w", "v", "Z"))])
    if word == "say":
        return word, chance.choice("stuvw"), random_saying(chance)
    if word in ("unsay", "mend"):
        name = chance.choice(sorted(bench.sayings) + ["zz"] if word == "unsay" else sorted(bench.sayings) * 4 + ["zz"])
        return (word, name) if word == "unsay" else (word, name, chance.choice((0, 1, 2, 2)))
    return word, state()
