"""A bench: a table and sayings, that are changed by deeds, and told of."""

from manyruns.bodies import kind_of
from manyruns.changes import done
from manyruns.errors import NoDeed, NoSaying, TooGreat
from manyruns.evers import least_none
from manyruns.rules import MENDS
from manyruns.sets import least_unanswered
from manyruns.sides import least_break
from manyruns.tables import Table


def _copy_of(table):
    # Its fields are nobody's own else: the asker may assign to those of his.
    return Table(table.states, table.moves, begins=table.begins, shows=table.shows)


class Bench:
    """Keeps a table, and sayings by their names."""

    def __init__(self, table):
        # What stood ahead of all deeds, then behind each one: a table, and
        # sayings by their names. None of these is ever changed.
        self._stands = [(_copy_of(table), {})]
        self._log = []
        self._working = 0

    def add(self, state, *, to=(), marks=()):
        """A state comes, that shows marks, with a move to each of to; to itself alone where there are none."""
        return self._do_one(("add", state, to, marks))

    def drop(self, state):
        """The state goes, with all moves from and to it."""
        return self._do_one(("drop", state))

    def link(self, one, other):
        """A move comes."""
        return self._do_one(("link", one, other))

    def cut(self, one, other):
        """A move goes."""
        return self._do_one(("cut", one, other))

    def mark(self, state, marks):
        """The state shows these marks from now on."""
        return self._do_one(("mark", state, marks))

    def begin(self, state):
        """The state is one of begins."""
        return self._do_one(("begin", state))

    def unbegin(self, state):
        """The state is none of begins any more."""
        return self._do_one(("unbegin", state))

    def say(self, name, saying):
        """A saying comes, by this name."""
        return self._do_one(("say", name, saying))

    def unsay(self, name):
        """The saying of this name goes."""
        return self._do_one(("unsay", name))

    def mend(self, name, *, most=MENDS):
        """The moves of the least mend of this saying, so many at most, go; it is told."""
        return self._do_one(("mend", name, most))

    def do(self, deeds):
        """All these deeds, one behind the other, as one; the list of what they tell."""
        stand = self._stands[-1]
        told = []
        self._log.append(("in", "do"))
        self._working += 1
        try:
            for deed in deeds:
                stand, answer = self._worked(stand, deed)
                told.append(answer)
        finally:
            self._working -= 1
            self._log.append(("out", "do"))
        self._stands.append(stand)
        return told

    def undo(self):
        """The last deed is as if it hadn't been: True; False where there is none."""
        self._log.append(("in", "undo"))
        undone = len(self._stands) > 1
        if undone:
            self._stands.pop()
        self._log.append(("out", "undo"))
        return undone

    def _do_one(self, deed):
        stand, told = self._worked(self._stands[-1], deed)
        self._stands.append(stand)
        return told

    def _worked(self, stand, deed):
        """What stands behind the deed, and what it tells; both its ends are in the log, refused or not."""
        word = deed[0]
        self._log.append(("in", word))
        self._working += 1
        try:
            return done(stand, deed)
        finally:
            self._working -= 1
            self._log.append(("out", word))

    def table(self):
        """The table that stands."""
        return _copy_of(self._stands[-1][0])

    def names(self):
        """The names of all sayings, rising."""
        return sorted(list(self._stands[-1][1]))

    def saying(self, name):
        """The saying of this name."""
        sayings = self._stands[-1][1]
        if name not in sayings:
            raise NoSaying(name)
        return sayings[name]

    def told(self, name):
        """Whether the saying of this name holds, and what tells that it doesn't."""
        saying = self.saying(name)
        table = self._stands[-1][0]
        kind = kind_of(saying)
        if kind == "all":
            least = least_break(table, saying)
        elif kind == "answer":
            least = least_unanswered(table, saying)
        else:
            least = least_none(table, saying)
        return ("true", None) if least is None else ("false", least)

    def broken(self):
        """The names of all sayings that are told false, rising."""
        return [name for name in self.names() if self._is_false(name)]

    def _is_false(self, name):
        try:
            return self.told(name)[0] == "false"
        except TooGreat:
            return False

    def deeds(self):
        """How many deeds undo would undo."""
        return len(self._stands) - 1

    def as_of(self, many):
        """A bench of its own as behind the first so many deeds."""
        if many > self.deeds():
            raise NoDeed(many)
        other = Bench(self._stands[0][0])
        other._stands = self._stands[:many + 1]
        return other

    def twin(self):
        """A bench of its own as this one."""
        return self.as_of(self.deeds())

    def log(self):
        """Each deed's beginning and end."""
        return list(self._log)

    def is_open(self):
        """Whether a deed is at work."""
        return self._working > 0

    def __eq__(self, other):
        return isinstance(other, Bench) and self._stands[-1] == other._stands[-1]

    def __len__(self):
        return len(self._stands[-1][1])

    def __repr__(self):
        return f"Bench({len(self)})"
