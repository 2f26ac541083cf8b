"""What deeds make of what stands: a table, and sayings by their names.

Nothing is changed here, but made anew, so what stood can be told again.
"""

from manyruns.errors import Known, LastBegin, LastMove, NoMend, NoMove, NoSaying, NoState
from manyruns.mends import least_mend
from manyruns.tables import Table, first_still


def _need_state(table, state):
    if state not in table.states:
        raise NoState(state)


def _need_saying(sayings, name):
    if name not in sayings:
        raise NoSaying(name)


def _made(states, moves, begins, shows):
    """The table of these, in any order; one that stands there twice is refused as no table."""
    return Table(tuple(sorted(states)), tuple(sorted(moves)), begins=tuple(sorted(begins)), shows=tuple(sorted(shows)))


def _shows_with(table, state, marks):
    """What states show, but these marks, in any order, of this one."""
    shows = [show for show in table.shows if show[0] != state]
    return shows + [(state, tuple(sorted(marks)))] if marks else shows


def _added(table, state, to, marks):
    if state in table.states:
        raise Known(state)
    for other in to:
        if other != state:
            _need_state(table, other)
    moves = [(state, other) for other in to] if to else [(state, state)]
    return _made(list(table.states) + [state], list(table.moves) + moves, table.begins,
                 _shows_with(table, state, marks))


def _dropped(table, state):
    _need_state(table, state)
    if table.begins == (state,):
        raise LastBegin()
    states = [other for other in table.states if other != state]
    moves = [move for move in table.moves if state not in move]
    lost = first_still(moves, states)
    if lost is not None:
        raise LastMove(lost)
    return _made(states, moves, [other for other in table.begins if other != state], _shows_with(table, state, ()))


def _linked(table, one, other):
    _need_state(table, one)
    _need_state(table, other)
    if (one, other) in table.moves:
        raise Known((one, other))
    return _made(table.states, list(table.moves) + [(one, other)], table.begins, table.shows)


def _cut(table, one, other):
    _need_state(table, one)
    _need_state(table, other)
    if (one, other) not in table.moves:
        raise NoMove((one, other))
    # It's refused with the one itself, as all others have their moves still.
    return table.without([(one, other)])


def _marked(table, state, marks):
    _need_state(table, state)
    return _made(table.states, table.moves, table.begins, _shows_with(table, state, marks))


def _begun(table, state):
    _need_state(table, state)
    if state in table.begins:
        raise Known(state)
    return _made(table.states, table.moves, list(table.begins) + [state], table.shows)


def _unbegun(table, state):
    if state not in table.begins:
        raise NoState(state)
    if len(table.begins) == 1:
        raise LastBegin()
    return _made(table.states, table.moves, [other for other in table.begins if other != state], table.shows)


def _said(sayings, name, saying):
    if name in sayings:
        raise Known(name)
    return {**sayings, name: saying}


def _unsaid(sayings, name):
    _need_saying(sayings, name)
    return {other: saying for other, saying in sayings.items() if other != name}


OF_TABLES = {"add": _added, "drop": _dropped, "link": _linked, "cut": _cut, "mark": _marked, "begin": _begun,
             "unbegin": _unbegun}
OF_SAYINGS = {"say": _said, "unsay": _unsaid}


def _mended(table, sayings, name, most):
    _need_saying(sayings, name)
    moves = least_mend(table, sayings[name], most=most)
    if moves is None:
        raise NoMend()
    return (table.without(moves), sayings), moves


def done(stand, deed):
    """What stands behind the deed, done to what stood, and what it tells."""
    table, sayings = stand
    word, *rest = deed
    if word == "mend":
        name, most = rest
        return _mended(table, sayings, name, most)
    if word in OF_SAYINGS:
        change = OF_SAYINGS[word]
        return (table, change(sayings, *rest)), None
    change = OF_TABLES[word]
    return (change(table, *rest), sayings), None
