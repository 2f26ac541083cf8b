"""Mends: the fewest moves that must go so that a saying holds, and papers that no fewer do."""

from itertools import combinations

from manyruns.errors import LastMove
from manyruns.rules import MENDS, SMALL
from manyruns.shapes import is_pair
from manyruns.sides import least_break, refuse_sides, shows_break


def _lessened(table, moves):
    """The table without these moves; None where it can't be."""
    try:
        return table.without(moves)
    except LastMove:
        return None


def least_mend(table, saying, *, most=MENDS):
    """The first of the fewest moves, so many at most, without which the saying holds; None."""
    refuse_sides(table, saying, SMALL)
    for many in range(most + 1):
        for moves in combinations(list(table.moves), many):
            less = _lessened(table, moves)
            if less is not None and least_break(less, saying) is None:
                return moves
    return None


def _tables_less(table, walk):
    """For each move in the walk, rising, without which the table can be, the table without it."""
    moves = sorted({move for step, other in zip(walk, walk[1:]) for move in zip(step, other)})
    tables = [_lessened(table, [move]) for move in moves]
    return [less for less in tables if less is not None]


def _paper(table, saying, many):
    # A mend has one of the walk's moves at least, or the walk is there still.
    walk = least_break(table, saying)
    if many == 0:
        return walk, []
    return walk, [_paper(less, saying, many - 1) for less in _tables_less(table, walk)]


def no_mend(table, saying, *, many):
    """None where so many moves at most mend the table, else a paper that none do."""
    if least_mend(table, saying, most=many) is not None:
        return None
    return _paper(table, saying, many)


def _is_paper(table, saying, many, thing):
    if not is_pair(thing) or not isinstance(thing[1], list) or not shows_break(table, saying, thing[0]):
        return False
    walk, papers = thing
    if many == 0:
        return len(papers) == 0
    tables = _tables_less(table, walk)
    return (len(papers) == len(tables)
            and all([_is_paper(less, saying, many - 1, paper) for less, paper in zip(tables, papers)]))


def shows_no_mend(table, saying, many, thing):
    """Whether it's a paper that no moves, so many at most, mend the table."""
    refuse_sides(table, saying, SMALL)
    return _is_paper(table, saying, many, thing)
