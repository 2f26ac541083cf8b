"""A desk: sheets of rows that are done to a bench, and answered."""

from manyruns.bench import Bench
from manyruns.errors import (BadKind, BadRow, BadTable, BadText, Known, LastBegin, LastMove, NoMend, NoMove, NoSaying,
                             NoState, TooGreat)
from manyruns.saytexts import say_in
from manyruns.shapes import is_name
from manyruns.tabletexts import table_in

# What stands behind the first word of each kind of row.
ROWS = {
    "add": ("name", "names", "names"), "mark": ("name", "names"), "drop": ("name",), "link": ("name", "name"),
    "cut": ("name", "name"), "begin": ("name",), "unbegin": ("name",), "say": ("name", "saying"), "unsay": ("name",),
    "mend": ("name",), "undo": (), "told": ("name",), "broken": (), "moves": (),
}


def _names_in(word):
    """The names that the word tells; None where it isn't so written."""
    if word == "-":
        return ()
    names = tuple(word.split(","))
    return names if all([is_name(name) for name in names]) else None


def _thing_in(form, word):
    """What the word tells; None where it isn't so written."""
    if form == "name":
        return word if is_name(word) else None
    if form == "names":
        return _names_in(word)
    try:
        return say_in(word)
    except BadText:
        return None


def _read(row):
    """The row's first word, and what those behind it tell; None where it isn't so written."""
    # The blanks of a saying's text part no words here.
    words = row.split(" ", 2) if row.startswith("say ") else row.split(" ")
    forms = ROWS.get(words[0])
    if forms is None or len(words) != 1 + len(forms):
        return None
    things = [_thing_in(form, word) for form, word in zip(forms, words[1:])]
    return None if None in things else (words[0], *things)


def _rows_in(rows, first):
    """What each of these rows tells, of which the first one has this number."""
    found = []
    for at, row in enumerate(rows):
        told = _read(row)
        if told is None:
            raise BadRow(first + at)
        found.append(told)
    return found


def _or_bare(words):
    return " ".join(words) if words else "-"


def _moves_text(moves):
    return _or_bare([f"{one}>{other}" for one, other in moves])


def _told_text(told):
    word, least = told
    if least is None:
        return word
    if isinstance(least, int):
        return f"{word} {least}"
    steps = " ".join([",".join(states) for states in least])
    return f"{word} {steps}"


def _done(bench, row):
    """What the row is answered, where it isn't refused."""
    word = row[0]
    if word == "told":
        return _told_text(bench.told(row[1]))
    if word == "broken":
        return _or_bare(bench.broken())
    if word == "moves":
        return _moves_text(bench.table().moves)
    if word == "undo":
        return "yes" if bench.undo() else "no"
    if word == "mend":
        return _moves_text(bench.mend(row[1]))
    bench.do([row])
    return "done"


def _answer(bench, row):
    """What the row is answered; each refusal by its class."""
    try:
        return _done(bench, row)
    except BadTable:
        return "refused BadTable"
    except BadKind:
        return "refused BadKind"
    except TooGreat:
        return "refused TooGreat"
    except NoState:
        return "refused NoState"
    except NoSaying:
        return "refused NoSaying"
    except NoMove:
        return "refused NoMove"
    except NoMend:
        return "refused NoMend"
    except LastMove:
        return "refused LastMove"
    except LastBegin:
        return "refused LastBegin"
    except Known:
        return "refused Known"


def answers(text):
    """What each row behind that of `bench` is answered."""
    rows = text.split("\n")
    if "bench" not in rows:
        # All rows are a table's, or it's refused here.
        table_in(text)
        raise BadRow(len(rows))
    at = rows.index("bench")
    # What this is refused with is the number of `bench` itself where the table isn't whole.
    bench = Bench(table_in("\n".join(rows[:at])))
    return [_answer(bench, row) for row in _rows_in(rows[at + 1:], at + 1)]
