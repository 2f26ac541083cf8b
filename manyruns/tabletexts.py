"""The text of a table, and the table of a text."""

from manyruns.errors import BadRow, BadTable
from manyruns.rules import MARKS, MOVES, STATES
from manyruns.shapes import is_name, is_names
from manyruns.tables import Table

KINDS = ("state", "begin", "move")


def table_text(table):
    """The table's text."""
    rows = [" ".join(["state", state, *table.marks_of(state)]) for state in table.states]
    rows += [f"begin {state}" for state in table.begins]
    rows += [f"move {one} {other}" for one, other in table.moves]
    return "\n".join(rows)


def _goes_behind(things, thing):
    """Whether these things rise still with this one behind them."""
    return not things or things[-1] < thing


class TableReading:
    """What a table's rows tell, as far as they have been taken."""

    def __init__(self):
        self.kind = 0
        self.states = []
        self.shows = []
        self.begins = []
        self.moves = []

    def take(self, words):
        """Take the next row, of these words; whether it may stand there."""
        if words[0] not in KINDS[self.kind:]:
            return False
        self.kind = KINDS.index(words[0])
        if words[0] == "state":
            return self._take_state(words[1:])
        if words[0] == "begin":
            return self._take_begin(words[1:])
        return self._take_move(tuple(words[1:]))

    def made(self):
        """The table; refused with BadTable where a begin or a move is wanting."""
        return Table(tuple(self.states), tuple(self.moves), begins=tuple(self.begins), shows=tuple(self.shows))

    def _take_state(self, words):
        if not words or not is_name(words[0]) or not _goes_behind(self.states, words[0]):
            return False
        self.states.append(words[0])
        marks = tuple(words[1:])
        if marks:
            self.shows.append((words[0], marks))
        return len(self.states) <= STATES and (not marks or is_names(marks, MARKS))

    def _take_begin(self, words):
        if len(words) != 1 or words[0] not in self.states or not _goes_behind(self.begins, words[0]):
            return False
        self.begins.append(words[0])
        return True

    def _take_move(self, move):
        if len(move) != 2 or move[0] not in self.states or move[1] not in self.states:
            return False
        if len(self.moves) == MOVES or not _goes_behind(self.moves, move):
            return False
        self.moves.append(move)
        return True


def table_in(text):
    """The table of which this is the text."""
    rows = text.split("\n")
    reading = TableReading()
    for at, row in enumerate(rows):
        if not reading.take(row.split(" ")):
            raise BadRow(at)
    try:
        return reading.made()
    except BadTable:
        raise BadRow(len(rows)) from None
