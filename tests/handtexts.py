"""Texts of tables, of sayings and of sheets read by hand, straight by the words of [9], [18] and [19]."""

import re

from manyruns.bodies import is_saying

NAME = "[a-z]{1,8}"
ROWS = (re.compile(f"state ({NAME})((?: {NAME}){{0,4}})"), re.compile(f"begin ({NAME})"),
        re.compile(f"move ({NAME}) ({NAME})"))
HEADS = re.compile("(?:all|some) [a-z]{1,8}(?: (?:all|some) [a-z]{1,8})*")
LEAF = re.compile("([a-z]{1,8})(?:~([a-z]{1,8}))?\\.([a-z]{1,8}(?:,[a-z]{1,8})*)")


def rises(things):
    return list(things) == sorted(things) and len(things) == len(set(things))


def rows_stand(rows):
    """Whether these rows may stand one behind the other, straight by the words of [9]."""
    told = []
    for row in rows:
        matches = [(kind, form.fullmatch(row)) for kind, form in enumerate(ROWS)]
        told += [(kind, match.groups()) for kind, match in matches if match]
    kinds_told = [kind for kind, _ in told]
    if len(told) < len(rows) or kinds_told != sorted(kinds_told):
        return False
    states = [words[0] for kind, words in told if kind == 0]
    marks = [words[1].split() for kind, words in told if kind == 0]
    begins = [words[0] for kind, words in told if kind == 1]
    moves = [words for kind, words in told if kind == 2]
    return (rises(states) and len(states) <= 8 and all(rises(some) for some in marks) and rises(begins)
            and rises(moves) and len(moves) <= 24 and set(begins) <= set(states)
            and {state for move in moves for state in move} <= set(states))


def told_row(text):
    """The number that BadRow tells; None."""
    rows = text.split("\n")
    for at in range(len(rows)):
        if not rows_stand(rows[:at + 1]):
            return at
    words = [row.split(" ") for row in rows]
    states = {row[1] for row in words if row[0] == "state"}
    begins = [row for row in words if row[0] == "begin"]
    return None if begins and states == {row[1] for row in words if row[0] == "move"} else len(rows)


def body_by_hand(words):
    """The body and the words behind it; refused with ValueError where they begin with none."""
    if not words:
        raise ValueError
    word, rest = words[0], words[1:]
    if word in ("not", "ahead", "ever"):
        one, rest = body_by_hand(rest)
        return (word, one), rest
    if word == "(":
        one, rest = body_by_hand(rest)
        other, last = body_by_hand(rest[1:])
        if rest[:1] not in (["and"], ["or"], ["since"]) or last[:1] != [")"]:
            raise ValueError
        return (rest[0], one, other), last[1:]
    leaf = LEAF.fullmatch(word)
    if not leaf:
        raise ValueError
    run, other, marks = leaf.groups()
    if other is None and "," not in marks:
        return ("has", run, marks), rest
    if other is None:
        raise ValueError
    return ("alike", run, other, tuple(marks.split(","))), rest


def saying_by_hand(text):
    """The saying of which this is the text, read from the left; None."""
    first, colon, second = text.partition(" : ")
    if not colon or not HEADS.fullmatch(first):
        return None
    words = first.split(" ")
    try:
        body, rest = body_by_hand(second.split(" "))
    except ValueError:
        return None
    saying = tuple(zip(words[::2], words[1::2])), body
    return saying if not rest and is_saying(saying) else None


NAMES = f"(?:-|{NAME}(?:,{NAME})*)"
DESK_ROWS = tuple(re.compile(form) for form in (
    f"add {NAME} {NAMES} {NAMES}", f"mark {NAME} {NAMES}", f"(?:drop|begin|unbegin|unsay|mend|told) {NAME}",
    f"(?:link|cut) {NAME} {NAME}", "undo|broken|moves"))
SAY = re.compile(f"say {NAME} ([^\n]*)")


def is_desk_row(row):
    """Whether a row behind that of `bench` is so written."""
    say = SAY.fullmatch(row)
    if say:
        return saying_by_hand(say.group(1)) is not None
    return any(form.fullmatch(row) for form in DESK_ROWS)


def sheet_row(text):
    """The number that BadRow tells of a sheet; None."""
    rows = text.split("\n")
    if "bench" not in rows:
        row = told_row(text)
        return len(rows) if row is None else row
    at = rows.index("bench")
    row = told_row("\n".join(rows[:at])) if at else 0
    odd = [number for number in range(at + 1, len(rows)) if not is_desk_row(rows[number])]
    return min(odd + [row if row is not None else len(rows)]) if odd or row is not None else None
