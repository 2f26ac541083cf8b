"""Runs that lead, and runs beside them.

Leading are the runs of a saying's first word, beside them go the others, if
there are any. A few is a rising tuple of sides of those beside; a node is a pair
(states, few): where the leading are, and where, and how, those beside can be.
"""

from manyruns.bodies import looks_back
from manyruns.values import part_rows, truths_at
from manyruns.walks import first_steps, steps_behind


def how_many_lead(saying):
    """How many runs lead."""
    words = [word for word, _ in saying[0]]
    return words.count(words[0])


def many_nodes(table, saying):
    """How many nodes there can be: the tuples of states of the leading, times
    two to the power of the sides of those beside, by what looks back."""
    leading = how_many_lead(saying)
    sides = 1
    for _ in range(len(saying[0]) - leading):
        sides *= len(table.states)
    for _ in range(looks_back(saying[1])):
        sides *= 2
    many = 1
    for _ in range(leading):
        many *= len(table.states)
    for _ in range(sides):
        many *= 2
    return many


class Beside:
    """The nodes of a saying, and the sides of the runs beside the leading."""

    def __init__(self, table, saying):
        self._table = table
        self.leading = how_many_lead(saying)
        self.others = len(saying[0]) - self.leading
        self.rows = part_rows(saying)

    def firsts(self, states):
        """All sides that can be beside these states at a first step, rising."""
        return [self._side_at(states, others, None) for others in first_steps(self._table, self.others)]

    def behind(self, side, states):
        """All sides that come of this one by moves, beside these states, rising by states."""
        others, values = side
        return [self._side_at(states, more, values) for more in steps_behind(self._table, others)]

    def first_nodes(self):
        """All nodes of a first step, with all sides that can be there, rising."""
        return [(states, tuple(self.firsts(states))) for states in first_steps(self._table, self.leading)]

    def nodes_behind(self, node):
        """All nodes by moves of the leading, with all sides that come of its few, rising by states."""
        states, few = node
        return [(more, self._few_behind(few, more)) for more in steps_behind(self._table, states)]

    def _few_behind(self, few, states):
        return tuple(sorted({other for side in few for other in self.behind(side, states)}))

    def _side_at(self, states, others, ahead):
        shown = [self._table.marks_of(state) for state in states + others]
        return others, truths_at(self.rows, shown, ahead)
