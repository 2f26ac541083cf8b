"""What is true at each step of a walk, and whether a walk keeps a saying."""

from manyruns.bodies import made_of, parts_of
from manyruns.walks import shown_of


def part_rows(saying):
    """For each part its word, two numbers, and marks.

    The numbers are of runs, for has and alike, else of the parts of which the
    part is made; the second one is the first one again where there is but one.
    """
    heads, body = saying
    runs = [run for _, run in heads]
    rows = []
    waiting = []
    for at, part in enumerate(parts_of(body)):
        if part[0] == "has":
            run = runs.index(part[1])
            rows.append((part[0], run, run, (part[2],)))
        elif part[0] == "alike":
            rows.append((part[0], runs.index(part[1]), runs.index(part[2]), part[3]))
        else:
            other = waiting.pop()
            one = waiting.pop() if len(made_of(part)) == 2 else other
            rows.append((part[0], one, other, ()))
        waiting.append(at)
    return rows


def truths_at(rows, shown, ahead):
    """The truths of all parts, of which these are the rows, at a step."""
    truths = []
    for at, row in enumerate(rows):
        was = ahead is not None and ahead[at]
        truths.append(_truth_of(row, truths, shown, was, ahead))
    return tuple(truths)


def _truth_of(row, truths, shown, was, ahead):
    """The truth of one part: truths are those of the parts ahead of it, was is
    whether the part itself was true at the step ahead."""
    word, one, other, marks = row
    if word == "has":
        return marks[0] in shown[one]
    if word == "alike":
        return all([(mark in shown[one]) == (mark in shown[other]) for mark in marks])
    if word == "not":
        return not truths[one]
    if word == "and":
        return truths[one] and truths[other]
    if word == "or":
        return truths[one] or truths[other]
    if word == "ahead":
        return ahead is not None and ahead[one]
    if word == "ever":
        return truths[one] or was
    return truths[other] or (truths[one] and was)


def values_of(saying, shown, *, ahead=None):
    """The truths of all parts at a step: shown is what each run shows there,
    ahead the truths at the step ahead, None at the first one."""
    return truths_at(part_rows(saying), shown, ahead)


def truths_of(table, saying, walk):
    """The body's truth at each step."""
    rows = part_rows(saying)
    found = []
    ahead = None
    for shown in shown_of(table, walk):
        ahead = truths_at(rows, shown, ahead)
        found.append(ahead[-1])
    return found


def keeps(table, saying, walk):
    """Whether the body is true at each step."""
    return all(truths_of(table, saying, walk))
