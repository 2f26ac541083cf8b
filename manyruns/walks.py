"""Walks: so many runs side by side, step by step."""

from manyruns.shapes import is_tuple_of, tuples_of


def first_steps(table, many):
    """All first steps of so many runs, rising."""
    return tuples_of([table.begins] * many)


def steps_behind(table, step):
    """All steps to which moves of all of this one's runs lead, rising."""
    return tuples_of([table.next_of(state) for state in step])


def _is_behind(table, step, other):
    return all([move in table.moves for move in zip(step, other)])


def is_walk(table, many, thing):
    """Whether it's a walk of so many runs, with one step at least."""
    if not isinstance(thing, list) or len(thing) == 0:
        return False
    if not all([is_tuple_of(step, table.states, many) for step in thing]):
        return False
    return (is_tuple_of(thing[0], table.begins, many)
            and all([_is_behind(table, step, other) for step, other in zip(thing, thing[1:])]))


def _steps_on(table, many, walk):
    """All steps by which this walk, which may have none, goes on."""
    if walk:
        return steps_behind(table, walk[-1])
    return first_steps(table, many)


def walks_of(table, many, steps):
    """All walks of so many runs and steps, rising."""
    found = [[]]
    for _ in range(steps):
        found = [walk + [step] for walk in found for step in _steps_on(table, many, walk)]
    return found


def run_of(walk, place):
    """The states of the run at this place."""
    return [step[place] for step in walk]


def shown_of(table, walk):
    """For each step what each run's state shows."""
    return [tuple([table.marks_of(state) for state in step]) for step in walk]
