"""Bodies and sayings: what is one, what it's made of, and of which kind it is."""

from manyruns.rules import BACKS, HEADS, MARKS, PARTS
from manyruns.shapes import is_name, is_names, is_pair

# Of how many bodies one that begins with this word is made.
MADE_OF = {"not": 1, "and": 2, "or": 2, "ahead": 1, "ever": 1, "since": 2}
LOOKING_BACK = ("ahead", "ever", "since")


def made_of(body):
    """The bodies of which this one is made, as they stand in it."""
    if body[0] in MADE_OF:
        return body[1:]
    return ()


def is_saying(thing):
    """Whether it's a saying."""
    if not is_pair(thing) or not _are_heads(thing[0]):
        return False
    return _is_body(thing[1], [run for _, run in thing[0]])


def parts_of(body):
    """The body's parts, each behind those of which it's made."""
    found = []
    waiting = [body]
    while waiting:
        part = waiting.pop()
        found.append(part)
        waiting.extend(made_of(part))
    # Found is each one ahead of what it's made of, and other's ahead of one's.
    return found[::-1]


def looks_back(body):
    """How many of the body's parts look back."""
    return len([part for part in parts_of(body) if part[0] in LOOKING_BACK])


def kind_of(saying):
    """The saying's kind: all, some, answer or ever."""
    words = [word for word, _ in saying[0]]
    if words[0] == "all":
        return "answer" if "some" in words else "all"
    return "ever" if "all" in words else "some"


def _is_head(thing):
    return is_pair(thing) and thing[0] in ("all", "some") and is_name(thing[1])


def _are_heads(thing):
    if not isinstance(thing, tuple) or not 1 <= len(thing) <= HEADS:
        return False
    if not all([_is_head(one) for one in thing]):
        return False
    changes = [one for one, other in zip(thing, thing[1:]) if one[0] != other[0]]
    return len(changes) <= 1 and len({run for _, run in thing}) == len(thing)


def _is_body(thing, runs):
    many = 0
    backs = 0
    waiting = [thing]
    while waiting:
        part = waiting.pop()
        many += 1
        # Counted while it's gone through, as one thing may stand in it very often.
        if many > PARTS or not _is_part(part, runs):
            return False
        if part[0] in LOOKING_BACK:
            backs += 1
        waiting.extend(made_of(part))
    return backs <= BACKS


def _is_part(thing, runs):
    """Whether it's a body of these runs, if those of which it's made are bodies."""
    if not isinstance(thing, tuple) or len(thing) == 0 or not isinstance(thing[0], str):
        return False
    if thing[0] == "has":
        return len(thing) == 3 and thing[1] in runs and is_name(thing[2])
    if thing[0] == "alike":
        return (len(thing) == 4 and thing[1] in runs and thing[2] in runs and thing[1] != thing[2]
                and is_names(thing[3], MARKS))
    return MADE_OF.get(thing[0]) == len(thing) - 1
