"""The table of a program."""

from manyruns.errors import TooGreat
from manyruns.programs import NUMBER_LETTERS
from manyruns.rules import MOVES, STATES
from manyruns.tables import Table


def _name_of(numbers):
    return "s" + "".join([NUMBER_LETTERS[number] for number in numbers])


def _nexts_of(program):
    """For each tuple of numbers that can come, those that can be behind it."""
    nexts = {}
    waiting = program.starts()
    while waiting:
        numbers = waiting.pop()
        if numbers not in nexts:
            nexts[numbers] = program.nexts(numbers)
            waiting.extend(nexts[numbers])
    return nexts


def table_of(program):
    """The table of all tuples of numbers that can come."""
    nexts = _nexts_of(program)
    if len(nexts) > STATES:
        raise TooGreat(len(nexts))
    # Names of as many letters rise just as their tuples do.
    come = sorted(list(nexts))
    moves = [(_name_of(one), _name_of(other)) for one in come for other in nexts[one]]
    if len(moves) > MOVES:
        raise TooGreat(len(moves))
    shows = [(_name_of(numbers), program.marks(numbers)) for numbers in come]
    return Table(tuple([_name_of(numbers) for numbers in come]), tuple(moves),
                 begins=tuple([_name_of(numbers) for numbers in program.starts()]),
                 shows=tuple([(state, marks) for state, marks in shows if marks]))
