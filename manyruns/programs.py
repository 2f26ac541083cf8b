"""Programs: texts of numbers that are set, and read, step by step."""

from manyruns.errors import BadRow
from manyruns.rules import HELD, IN_TUPLES, MOST, SHOWN, SHOWN_LETTERS, TUPLES
from manyruns.shapes import is_name, tuples_of

KINDS = ("var", "in", "show", "set")
PLUS_MINUS = ("+", "-")
SIGNS = ("=", "<", ">")
# The letters of the numbers from 0 up.
NUMBER_LETTERS = "abcd"


def is_figure(word):
    """Whether it's one figure, 0 to 9."""
    return len(word) == 1 and "0" <= word <= "9"


class Reading:
    """What a program's rows tell, as far as they have been taken."""

    def __init__(self):
        self.kind = 0
        # Each var's and in's most, each var's number at first, by their names.
        self.mosts = {}
        self.begins = {}
        self.shown = []
        # Each set's var, its term, and what stands behind when: two terms and
        # the sign between them, or None.
        self.changes = []

    def take(self, words):
        """Take the next row, of these words; whether it may stand there."""
        if words[0] not in KINDS[self.kind:]:
            return False
        self.kind = KINDS.index(words[0])
        if words[0] == "var":
            return self._take_var(words)
        if words[0] == "in":
            return self._take_in(words)
        if words[0] == "show":
            return self._take_show(words)
        return self._take_set(words)

    def _take_var(self, words):
        if len(words) != 4 or not self._may_come(words) or not is_figure(words[3]):
            return False
        self.begins[words[1]] = int(words[3])
        self.mosts[words[1]] = int(words[2])
        return self.begins[words[1]] <= self.mosts[words[1]] and _tuples(self.mosts, []) <= TUPLES

    def _take_in(self, words):
        if len(words) != 3 or not self._may_come(words):
            return False
        self.mosts[words[1]] = int(words[2])
        return _tuples(self.mosts, self.begins) <= IN_TUPLES and _tuples(self.mosts, []) <= TUPLES

    def _may_come(self, words):
        """Whether the second word is a new name, with the third one as its most."""
        return (len(self.mosts) < HELD and is_name(words[1]) and words[1] not in self.mosts
                and is_figure(words[2]) and 1 <= int(words[2]) <= MOST)

    def _take_show(self, words):
        if len(words) != 2 or words[1] not in self.mosts or words[1] in self.shown:
            return False
        self.shown.append(words[1])
        return len(self.shown) <= SHOWN and len(words[1]) <= SHOWN_LETTERS

    def _take_set(self, words):
        if len(words) < 3 or words[1] not in self.begins:
            return False
        term, rest = _cut(words[2:])
        if not self._is_term(term):
            return False
        if not rest:
            self.changes.append((words[1], term, None))
            return True
        one, behind = _cut(rest[1:])
        if rest[0] != "when" or not self._is_term(one):
            return False
        if not behind or behind[0] not in SIGNS or not self._is_term(behind[1:]):
            return False
        self.changes.append((words[1], term, (one, behind[0], behind[1:])))
        return True

    def _is_term(self, words):
        if len(words) == 3:
            return self._is_worth(words[0]) and words[1] in PLUS_MINUS and self._is_worth(words[2])
        return len(words) == 1 and self._is_worth(words[0])

    def _is_worth(self, word):
        return word in self.mosts or is_figure(word)


def _tuples(mosts, but):
    """How many tuples of numbers there are, of all names but these."""
    many = 1
    for name, most in mosts.items():
        if name not in but:
            many *= most + 1
    return many


def _cut(words):
    """The words of the term that is first in these, and those behind it."""
    # Plus and minus are no names, so a term of three can be told by them alone.
    many = 3 if len(words) > 1 and words[1] in PLUS_MINUS else 1
    return words[:many], words[many:]


def _worth_of(word, held):
    return held[word] if word in held else int(word)


def _term_of(words, held):
    """The term's number, by the numbers that are held."""
    worth = _worth_of(words[0], held)
    if len(words) == 1:
        return worth
    if words[1] == "+":
        return worth + _worth_of(words[2], held)
    return worth - _worth_of(words[2], held)


def _is_so(when, held):
    """Whether that which stands behind when is so, by the numbers that are held."""
    if when is None:
        return True
    one, sign, other = when
    if sign == "=":
        return _term_of(one, held) == _term_of(other, held)
    if sign == "<":
        return _term_of(one, held) < _term_of(other, held)
    return _term_of(one, held) > _term_of(other, held)


class Program:
    """A program, by its text."""

    def __init__(self, text):
        self._rows = text.split("\n")
        reading = Reading()
        for at, row in enumerate(self._rows):
            if not reading.take(row.split(" ")):
                raise BadRow(at)
        if not reading.begins:
            raise BadRow(len(self._rows))
        self._mosts = reading.mosts
        self._begins = reading.begins
        self._shown = reading.shown
        self._changes = reading.changes

    def names(self):
        """The names of its vars, then of its ins, as they stand."""
        return list(self._mosts)

    def starts(self):
        """All tuples of the numbers at first, rising."""
        return self._tuples_by(self._begins)

    def nexts(self, numbers):
        """All tuples of the numbers that can be behind a step, rising."""
        held = dict(zip(self._mosts, numbers))
        for name, term, when in self._changes:
            if _is_so(when, held):
                held[name] = _term_of(term, held) % (self._mosts[name] + 1)
        return self._tuples_by(held)

    def marks(self, numbers):
        """The marks that show these numbers, as far as they are shown, rising."""
        held = dict(zip(self._mosts, numbers))
        return tuple(sorted([name + NUMBER_LETTERS[held[name]] for name in self._shown]))

    def _tuples_by(self, held):
        """All tuples whose vars have the numbers that are held, ins any."""
        choices = []
        for name, most in self._mosts.items():
            choices.append([held[name]] if name in self._begins else list(range(most + 1)))
        return tuples_of(choices)

    def __eq__(self, other):
        return isinstance(other, Program) and self._rows == other._rows

    def __repr__(self):
        return " / ".join(self._rows)
