"""Runs that answer: the least walk to which there is none, and papers that there is one to each."""

from manyruns.besides import Beside, many_nodes
from manyruns.bodies import kind_of
from manyruns.errors import BadKind, TooGreat
from manyruns.rules import SETS
from manyruns.shapes import is_pair, is_tuple_of
from manyruns.stepping import all_come, is_side, is_true, least_walk
from manyruns.walks import is_walk


def _refuse(table, saying):
    kind = kind_of(saying)
    if kind != "answer":
        raise BadKind(kind)
    many = many_nodes(table, saying)
    if many > SETS:
        raise TooGreat(many)


class Answering:
    """The nodes of the asked, of which each few is of answers alone."""

    def __init__(self, table, saying):
        self._beside = Beside(table, saying)

    def firsts(self):
        """Those of a first step, rising."""
        return [_answered(node) for node in self._beside.first_nodes()]

    def behind(self, node):
        """Those to which moves of the asked lead, rising by states."""
        return [_answered(other) for other in self._beside.nodes_behind(node)]

    def is_end(self, node):
        """Whether a walk to this node is one that is looked for: there's no answer to it."""
        return not node[1]


def _answered(node):
    states, few = node
    return states, tuple([side for side in few if is_true(side)])


def first_answer(table, saying, walk):
    """The first answer to this walk of the asked; None."""
    _refuse(table, saying)
    beside = Beside(table, saying)
    answers = {side: [side[0]] for side in beside.firsts(walk[0]) if is_true(side)}
    for states in walk[1:]:
        answers = _answers_on(beside, answers, states)
    told = list(answers.values())
    return told[0] if told else None


def _answers_on(beside, answers, states):
    """The first answer to each side a step on, as these answers, that rise, go on beside these states."""
    found = {}
    for side, answer in answers.items():
        for other in beside.behind(side, states):
            # The first one that comes there is the least, as the answers rise.
            if is_true(other) and other not in found:
                found[other] = answer + [other[0]]
    return found


def least_unanswered(table, saying):
    """The first walk of the asked, of the fewest steps, to which there's no answer; None."""
    _refuse(table, saying)
    return least_walk(Answering(table, saying))


def all_sets(table, saying):
    """All pairs (states, few) at the last step of some walk of the asked, few of its answers, rising."""
    _refuse(table, saying)
    return sorted(all_come(Answering(table, saying)))


def shows_unanswered(table, saying, thing):
    """Whether it's a walk of the asked to which there's no answer."""
    _refuse(table, saying)
    return (is_walk(table, Beside(table, saying).leading, thing)
            and first_answer(table, saying, thing) is None)


def _is_entry(table, beside, thing):
    """Whether it's a pair of states of the asked and a tuple of sides of the answering, one at least."""
    return (is_pair(thing) and is_tuple_of(thing[0], table.states, beside.leading)
            and isinstance(thing[1], tuple) and len(thing[1]) > 0
            and all([is_side(table, beside.others, len(beside.rows), side) for side in thing[1]]))


def _has_within(fews, node):
    """Whether one of the fews that stand by the node's states has no side but of the node's few."""
    states, most = node
    there = {one: True for one in most}
    return any([all([side in there for side in few]) for few in fews.get(states, [])])


def shows_answered(table, saying, thing):
    """Whether it's a list of entries by which each walk of the asked has answers, step by step."""
    _refuse(table, saying)
    beside = Beside(table, saying)
    if not isinstance(thing, list) or not all([_is_entry(table, beside, one) for one in thing]):
        return False
    entries = {entry: True for entry in thing}
    fews = {}
    for states, few in entries:
        fews.setdefault(states, []).append(few)
    if not all([_has_within(fews, node) for node in beside.first_nodes()]):
        return False
    for entry in entries:
        if not all([_has_within(fews, node) for node in beside.nodes_behind(entry)]):
            return False
    return True
