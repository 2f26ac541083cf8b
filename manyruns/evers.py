"""Runs that keep a saying for ever, whatever the others do: rings of them, or papers that ranks fall."""

from manyruns.besides import Beside, many_nodes
from manyruns.bodies import kind_of
from manyruns.errors import BadKind, TooGreat
from manyruns.rules import SETS, SIDES
from manyruns.shapes import is_pair, is_rising, is_tuple_of
from manyruns.stepping import all_come, is_side, is_true, many_sides


def _refuse(table, saying):
    kind = kind_of(saying)
    if kind not in ("some", "ever"):
        raise BadKind(kind)
    many, most = many_nodes(table, saying), SETS
    if kind == "some":
        many, most = many_sides(table, saying), SIDES
    if many > most:
        raise TooGreat(many)


class Standing:
    """The nodes of the runs of some alone at which the body is true of all sides, come to by such alone."""

    def __init__(self, table, saying):
        self._beside = Beside(table, saying)

    def firsts(self):
        """Those of a first step, rising."""
        return [node for node in self._beside.first_nodes() if _all_true(node)]

    def behind(self, node):
        """Those to which moves lead from this one, rising by states."""
        return [other for other in self._beside.nodes_behind(node) if _all_true(other)]


def _all_true(node):
    return all([is_true(side) for side in node[1]])


def _node_with(nodes, states):
    """Of these nodes the one with these states; None."""
    for node in nodes:
        if node[0] == states:
            return node
    return None


def _led_by(walk, standing, node):
    """The node to which the walk leads, on from this node, () ahead of all steps; None where it doesn't stand."""
    for states in walk:
        if node is None:
            return None
        node = _node_with(standing.behind(node) if node else standing.firsts(), states)
    return node


def stands(table, saying, walk):
    """Whether this walk of the runs of some keeps the saying with each walk of the others."""
    _refuse(table, saying)
    return _led_by(walk, Standing(table, saying), ()) is not None


def _steps_left(standing):
    """Of each node of which no walk goes on for ever, how many steps the longest one has, it too."""
    behind = {node: standing.behind(node) for node in all_come(standing)}
    left = {}
    steps = 0
    while True:
        steps += 1
        ended = [node for node in behind if node not in left and all([other in left for other in behind[node]])]
        if not ended:
            return left
        for node in ended:
            left[node] = steps


def least_none(table, saying):
    """The fewest steps, 1 at least, of which no walk stands; None."""
    _refuse(table, saying)
    standing = Standing(table, saying)
    left = _steps_left(standing)
    firsts = standing.firsts()
    if not all([node in left for node in firsts]):
        return None
    return 1 + max([left[node] for node in firsts], default=0)


def _going_on(nodes, left):
    """The first of these nodes of which a walk goes on for ever; None."""
    for node in nodes:
        if node not in left:
            return node
    return None


def ring_of(table, saying):
    """A pair (stem, loop) all of whose walks stand; None."""
    _refuse(table, saying)
    standing = Standing(table, saying)
    left = _steps_left(standing)
    node = _going_on(standing.firsts(), left)
    if node is None:
        return None
    come = []
    while node not in come:
        come.append(node)
        node = _going_on(standing.behind(node), left)
    stem = come.index(node)
    walk = [states for states, _ in come]
    return walk[:stem], walk[stem:]


def shows_ring(table, saying, thing):
    """Whether it's a ring all of whose walks stand."""
    _refuse(table, saying)
    if not is_pair(thing) or not isinstance(thing[0], list) or not isinstance(thing[1], list):
        return False
    stem, loop = thing
    if not loop:
        return False
    standing = Standing(table, saying)
    come = {}
    # What is no walk, or does not close, leads to no node.
    node = _led_by(stem + loop, standing, ())
    # Where a node comes again, all that is behind it comes again, too.
    while node is not None and node not in come:
        come[node] = True
        node = _led_by(loop, standing, node)
    return node is not None


def _is_few(table, beside, thing):
    """Whether it's a rising tuple of sides at which the body is true, one at least."""
    return (isinstance(thing, tuple) and len(thing) > 0
            and all([is_side(table, beside.others, len(beside.rows), one) for one in thing]) and is_rising(thing))


def _is_ranked(table, beside, thing):
    """Whether it's a triple of the states and few of a node, and a number from 0."""
    return (isinstance(thing, tuple) and len(thing) == 3 and is_tuple_of(thing[0], table.states, beside.leading)
            and _is_few(table, beside, thing[1])
            and isinstance(thing[2], int) and not isinstance(thing[2], bool) and thing[2] >= 0)


def shows_none(table, saying, thing):
    """Whether it's a list of triples (states, few, rank) by which no walk stands for ever, as ranks fall."""
    _refuse(table, saying)
    beside = Beside(table, saying)
    standing = Standing(table, saying)
    if not isinstance(thing, list) or not all([_is_ranked(table, beside, one) for one in thing]):
        return False
    ranks = {(states, few): rank for states, few, rank in thing}
    if len(ranks) != len(thing) or not all([node in ranks for node in standing.firsts()]):
        return False
    for node, rank in ranks.items():
        if not all([other in ranks and ranks[other] < rank for other in standing.behind(node)]):
            return False
    return True
