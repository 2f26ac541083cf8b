"""States that stay alike, as far as some marks are looked at."""

from manyruns.shapes import is_pair
from manyruns.tables import Table


def _seen_of(table, marks):
    """What each state shows of these marks."""
    return {state: tuple([mark for mark in table.marks_of(state) if mark in marks]) for state in table.states}


def _is_followed(table, seen, pair, there):
    """Whether both show the same, and for each move of one the other has one to a pair that is there."""
    one, other = pair
    nexts = table.next_of(other)
    return seen[one] == seen[other] and all([_has_pair(state, nexts, there) for state in table.next_of(one)])


def _has_pair(state, others, there):
    return any([(state, other) in there for other in others])


def follows(table, marks):
    """All pairs (one, other) of states of which the other can do, for ever, as the one does; rising."""
    seen = _seen_of(table, marks)
    there = {(one, other): True for one in table.states for other in table.states}
    while True:
        left = {pair: True for pair in there if _is_followed(table, seen, pair, there)}
        if len(left) == len(there):
            return sorted(list(left))
        there = left


def _firsts(table, marks):
    """For each state the first one of its class."""
    looks = _seen_of(table, marks)
    many = 0
    while True:
        firsts = {}
        for state in table.states:
            firsts.setdefault(looks[state], state)
        first_of = {state: firsts[looks[state]] for state in table.states}
        if len(firsts) == many:
            return first_of
        many = len(firsts)
        # States stay together that stood together, and have moves to the same of these.
        looks = {state: (first_of[state], tuple(sorted({first_of[other] for other in table.next_of(state)})))
                 for state in table.states}


def classes(table, marks):
    """The rising tuples of states that stay alike, by their firsts, the fewest."""
    first_of = _firsts(table, marks)
    found = {}
    for state in table.states:
        found.setdefault(first_of[state], []).append(state)
    return [tuple(states) for states in found.values()]


def pressed(table, marks):
    """The table of the firsts of classes, that show what they show of these marks."""
    first_of = _firsts(table, marks)
    seen = _seen_of(table, marks)
    states = sorted(set(list(first_of.values())))
    return Table(tuple(states), tuple(sorted({(first_of[one], first_of[other]) for one, other in table.moves})),
                 begins=tuple(sorted({first_of[state] for state in table.begins})),
                 shows=tuple([(state, seen[state]) for state in states if seen[state]]))


def shown_rows(table, marks, steps):
    """All rows of what runs of so many steps show of these marks, rising."""
    seen = _seen_of(table, marks)
    # At which states the runs are that showed each row so far.
    rows = {(): None}
    for _ in range(steps):
        rows = _rows_on(table, seen, rows)
    return [list(row) for row in sorted(list(rows))]


def _rows_on(table, seen, rows):
    """The rows of a step more, each with the states at which the runs are that showed it."""
    found = {}
    for row, states in rows.items():
        nexts = table.begins if states is None else [other for one, other in table.moves if one in states]
        for state in nexts:
            there = found.setdefault(row + (seen[state],), {})
            there[state] = True
    return found


def shows_follows(table, marks, thing):
    """Whether it's a list of pairs of states, each followed by pairs of this list alone."""
    if not isinstance(thing, list) or not all([_is_pair_of(table, one) for one in thing]):
        return False
    seen = _seen_of(table, marks)
    there = {pair: True for pair in thing}
    return all([_is_followed(table, seen, pair, there) for pair in thing])


def _is_pair_of(table, thing):
    return is_pair(thing) and thing[0] in table.states and thing[1] in table.states
