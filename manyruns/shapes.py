"""Whether a thing that is handed in, of any kind, is of a shape asked for; tuples of choices."""

from manyruns.rules import LETTERS


def is_name(thing):
    """Whether it's a NAME."""
    return (isinstance(thing, str) and 1 <= len(thing) <= LETTERS
            and all(["a" <= letter <= "z" for letter in thing]))


def is_pair(thing):
    """Whether it's a tuple of two."""
    return isinstance(thing, tuple) and len(thing) == 2


def is_tuple_of(thing, choices, many):
    """Whether it's a tuple of so many, each one of the choices, which are texts."""
    return (isinstance(thing, tuple) and len(thing) == many
            and all([one in choices for one in thing]))


def is_truths(thing, many):
    """Whether it's a tuple of so many truths."""
    return (isinstance(thing, tuple) and len(thing) == many
            and all([isinstance(one, bool) for one in thing]))


def is_rising(things):
    """Whether each of these, which can be compared, is above the one ahead."""
    return all([one < other for one, other in zip(things, things[1:])])


def is_names(thing, most):
    """Whether it's a rising tuple of NAMEs, one at least and so many at most."""
    # Only what is known to be texts is compared: other things may not be.
    return (isinstance(thing, tuple) and 1 <= len(thing) <= most
            and all([is_name(one) for one in thing]) and is_rising(thing))


def tuples_of(choices):
    """All tuples that have one of each of these lists; rising where the lists are."""
    found = [()]
    for some in choices:
        found = [begun + (one,) for begun in found for one in some]
    return found
