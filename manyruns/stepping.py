"""Going through a table step by step, as far as a saying tells of it.

A side is a pair (states, values): where runs are at a step, side by side, and
the truths of all parts there. What is gone through is sides, or other pairs
whose first is where runs are: whatever a stepping tells.
"""

from manyruns.bodies import looks_back
from manyruns.shapes import is_pair, is_truths, is_tuple_of
from manyruns.values import part_rows, truths_at
from manyruns.walks import first_steps, steps_behind


def is_true(side):
    """Whether the body is true there."""
    return side[1][-1]


class Stepping:
    """All sides of the runs of a saying."""

    def __init__(self, table, saying):
        self._table = table
        self.heads = len(saying[0])
        self.rows = part_rows(saying)

    def firsts(self):
        """All sides of a first step, rising."""
        return [self._side_at(states, None) for states in first_steps(self._table, self.heads)]

    def behind(self, side):
        """All sides to which moves of all runs lead from this one, rising by states."""
        states, values = side
        return [self._side_at(others, values) for others in steps_behind(self._table, states)]

    def is_end(self, side):
        """Whether a walk to this side is one that is looked for: it breaks the saying."""
        return not is_true(side)

    def _side_at(self, states, ahead):
        shown = [self._table.marks_of(state) for state in states]
        return states, truths_at(self.rows, shown, ahead)


class Keeping:
    """The sides alone at which the body is true, come to by such alone."""

    def __init__(self, table, saying):
        self._stepping = Stepping(table, saying)

    def firsts(self):
        """Those of a first step, rising."""
        return [side for side in self._stepping.firsts() if is_true(side)]

    def behind(self, side):
        """Those to which moves of all runs lead from this one, rising by states."""
        return [other for other in self._stepping.behind(side) if is_true(other)]


def many_sides(table, saying, more=0):
    """How many sides there can be: the states to the power of the heads, and of
    so many more, times two to the power of the parts that look back."""
    many = 1
    for _ in range(len(saying[0]) + more):
        many *= len(table.states)
    for _ in range(looks_back(saying[1])):
        many *= 2
    return many


def is_side(table, many, parts, thing):
    """Whether it's a pair of so many states and truths of so many parts, the body's true."""
    return (is_pair(thing) and is_tuple_of(thing[0], table.states, many)
            and is_truths(thing[1], parts) and is_true(thing))


def _come_next(stepping, nodes, ahead):
    """What comes of these and hasn't come yet; ahead is told, of each, of which it comes."""
    found = []
    for node in nodes:
        for other in stepping.behind(node):
            if other not in ahead:
                ahead[other] = node
                found.append(other)
    return found


def _walk_to(node, ahead):
    """The walk that ends there, by what each one comes of."""
    walk = []
    while node is not None:
        walk.append(node[0])
        node = ahead[node]
    return walk[::-1]


def least_walk(stepping):
    """The first walk, of the fewest steps, to an end; None."""
    ahead = {node: None for node in stepping.firsts()}
    nodes = list(ahead)
    while nodes:
        # They stand as the first walks to them rise, so the first end is the least.
        for node in nodes:
            if stepping.is_end(node):
                return _walk_to(node, ahead)
        nodes = _come_next(stepping, nodes, ahead)
    return None


def all_come(stepping):
    """All that is come to, each once."""
    ahead = {node: None for node in stepping.firsts()}
    nodes = list(ahead)
    while nodes:
        nodes = _come_next(stepping, nodes, ahead)
    return list(ahead)
