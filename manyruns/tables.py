"""Tables: states that show marks, and moves between them."""

from manyruns.errors import BadTable, LastMove
from manyruns.rules import MARKS, MOVES, STATES
from manyruns.shapes import is_names, is_pair, is_rising


class Table:
    """States, the moves between them, where runs begin, what states show."""

    def __init__(self, states, moves, *, begins, shows=()):
        if not is_names(states, STATES):
            raise BadTable("states")
        if not _are_moves(moves, states):
            raise BadTable("moves")
        if not _are_begins(begins, states):
            raise BadTable("begins")
        if not _are_shows(shows, states):
            raise BadTable("shows")
        self.states = states
        self.moves = moves
        self.begins = begins
        self.shows = shows

    def marks_of(self, state):
        """The marks that this state shows."""
        for one, marks in self.shows:
            if one == state:
                return marks
        return ()

    def next_of(self, state):
        """The states to which moves of this one lead, rising."""
        return [other for one, other in self.moves if one == state]

    def without(self, moves):
        """The table otherwise alike that has none of these moves."""
        kept = tuple([move for move in self.moves if move not in moves])
        lost = first_still(kept, self.states)
        if lost is not None:
            raise LastMove(lost)
        return Table(self.states, kept, begins=self.begins, shows=self.shows)

    def __len__(self):
        return len(self.moves)

    def __eq__(self, other):
        return (isinstance(other, Table) and self.states == other.states and self.moves == other.moves
                and self.begins == other.begins and self.shows == other.shows)

    def __repr__(self):
        return f"Table({len(self.states)})"


def first_still(moves, states):
    """The first state with which none of these moves begins; None."""
    firsts = [one for one, _ in moves]
    for state in states:
        if state not in firsts:
            return state
    return None


def _is_move(thing, states):
    return is_pair(thing) and thing[0] in states and thing[1] in states


def _are_moves(thing, states):
    return (isinstance(thing, tuple) and len(thing) <= MOVES
            and all([_is_move(one, states) for one in thing]) and is_rising(thing)
            and first_still(thing, states) is None)


def _are_begins(thing, states):
    return (isinstance(thing, tuple) and len(thing) > 0
            and all([one in states for one in thing]) and is_rising(thing))


def _is_show(thing, states):
    return is_pair(thing) and thing[0] in states and is_names(thing[1], MARKS)


def _are_shows(thing, states):
    # Pairs whose states rise are rising too, and no state is there twice.
    return (isinstance(thing, tuple) and all([_is_show(one, states) for one in thing])
            and is_rising([state for state, _ in thing]))
