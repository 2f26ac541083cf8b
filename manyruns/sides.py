"""Sayings of all runs: the least walk that breaks one, and papers that none does.

A side is a pair (states, values): where the runs are at a step, side by side,
and the truths of all parts there.
"""

from manyruns.bodies import kind_of, looks_back
from manyruns.errors import BadKind, TooGreat
from manyruns.rules import SIDES
from manyruns.shapes import is_pair, is_truths, is_tuple_of
from manyruns.values import keeps, part_rows, truths_at
from manyruns.walks import first_steps, is_walk, steps_behind


class Stepping:
    """A table and a saying, made ready to be gone through step by step."""

    def __init__(self, table, saying):
        self._table = table
        self.heads = len(saying[0])
        self.rows = part_rows(saying)

    def firsts(self):
        """All sides of a first step, rising."""
        return [self._side_at(states, None) for states in first_steps(self._table, self.heads)]

    def behind(self, side):
        """All sides to which moves of all runs lead from this one, rising by states."""
        states, values = side
        return [self._side_at(others, values) for others in steps_behind(self._table, states)]

    def _side_at(self, states, ahead):
        shown = [self._table.marks_of(state) for state in states]
        return states, truths_at(self.rows, shown, ahead)


def many_sides(table, saying):
    """How many sides there can be: the states to the power of the heads, times
    two to the power of the parts that look back."""
    many = 1
    for _ in saying[0]:
        many *= len(table.states)
    for _ in range(looks_back(saying[1])):
        many *= 2
    return many


def _refuse(table, saying):
    kind = kind_of(saying)
    if kind != "all":
        raise BadKind(kind)
    many = many_sides(table, saying)
    if many > SIDES:
        raise TooGreat(many)


def _is_true(side):
    return side[1][-1]


def _come_next(stepping, sides, ahead):
    """The sides that come of these and have not come yet; ahead is told, of each, of which it comes."""
    found = []
    for side in sides:
        for other in stepping.behind(side):
            if other not in ahead:
                ahead[other] = side
                found.append(other)
    return found


def _walk_to(side, ahead):
    """The walk that ends at this side, by what each one comes of."""
    walk = []
    while side is not None:
        walk.append(side[0])
        side = ahead[side]
    return walk[::-1]


def least_break(table, saying):
    """The first walk, of the fewest steps, that doesn't keep the saying; None."""
    _refuse(table, saying)
    stepping = Stepping(table, saying)
    ahead = {side: None for side in stepping.firsts()}
    sides = list(ahead)
    while sides:
        # Sides stand as the first walks to them rise, so the first one is the least.
        for side in sides:
            if not _is_true(side):
                return _walk_to(side, ahead)
        sides = _come_next(stepping, sides, ahead)
    return None


def side_by_side(table, saying):
    """All sides at some step of a walk that keeps the saying to that step, rising."""
    _refuse(table, saying)
    stepping = Stepping(table, saying)
    ahead = {side: None for side in stepping.firsts()}
    sides = list(ahead)
    while sides:
        sides = _come_next(stepping, [side for side in sides if _is_true(side)], ahead)
    return sorted([side for side in ahead if _is_true(side)])


def shows_break(table, saying, thing):
    """Whether it's a walk that doesn't keep the saying."""
    _refuse(table, saying)
    return is_walk(table, len(saying[0]), thing) and not keeps(table, saying, thing)


def _is_side(table, stepping, thing):
    """Whether it's a pair of states and truths of which the body's is true."""
    return (is_pair(thing) and is_tuple_of(thing[0], table.states, stepping.heads)
            and is_truths(thing[1], len(stepping.rows)) and _is_true(thing))


def shows_all(table, saying, thing):
    """Whether it's a list of sides that has all first ones, and all behind each of it."""
    _refuse(table, saying)
    stepping = Stepping(table, saying)
    if not isinstance(thing, list) or not all([_is_side(table, stepping, one) for one in thing]):
        return False
    there = {side: True for side in thing}
    if not all([side in there for side in stepping.firsts()]):
        return False
    for side in there:
        if not all([other in there for other in stepping.behind(side)]):
            return False
    return True
