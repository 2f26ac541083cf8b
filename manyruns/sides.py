"""Sayings of all runs: the least walk that breaks one, and papers that none does."""

from manyruns.bodies import kind_of
from manyruns.errors import BadKind, TooGreat
from manyruns.rules import SIDES
from manyruns.stepping import Keeping, Stepping, all_come, is_side, least_walk, many_sides
from manyruns.values import keeps
from manyruns.walks import is_walk


def refuse_sides(table, saying, most):
    """Refuse a saying of another kind than all, or with more sides than so many."""
    kind = kind_of(saying)
    if kind != "all":
        raise BadKind(kind)
    many = many_sides(table, saying)
    if many > most:
        raise TooGreat(many)


def least_break(table, saying):
    """The first walk, of the fewest steps, that doesn't keep the saying; None."""
    refuse_sides(table, saying, SIDES)
    return least_walk(Stepping(table, saying))


def side_by_side(table, saying):
    """All sides at some step of a walk that keeps the saying to that step, rising."""
    refuse_sides(table, saying, SIDES)
    return sorted(all_come(Keeping(table, saying)))


def shows_break(table, saying, thing):
    """Whether it's a walk that doesn't keep the saying."""
    refuse_sides(table, saying, SIDES)
    return is_walk(table, len(saying[0]), thing) and not keeps(table, saying, thing)


def shows_all(table, saying, thing):
    """Whether it's a list of sides that has all first ones, and all behind each of it."""
    refuse_sides(table, saying, SIDES)
    stepping = Stepping(table, saying)
    if not isinstance(thing, list):
        return False
    if not all([is_side(table, stepping.heads, len(stepping.rows), one) for one in thing]):
        return False
    there = {side: True for side in thing}
    if not all([side in there for side in stepping.firsts()]):
        return False
    for side in there:
        if not all([other in there for other in stepping.behind(side)]):
            return False
    return True
