"""Sayings gone through by hand, straight by the words of [7], [11] and [13], for several tests.

Leading are the runs of a saying's first word: the asked, or those of some.
"""

import itertools

from manyruns.bodies import is_saying, parts_of
from manyruns.values import values_of
from tests.helpers import backs_of, random_body, random_heads, random_table, true_at, walks_by_runs


def kept(table, saying, walk):
    return all(true_at(table, saying, walk, saying[1], step) for step in range(len(walk)))


def side_by(walk, other):
    """Both walks side by side."""
    return [one + two for one, two in zip(walk, other)]


def leads(saying):
    """How many runs lead."""
    return len([word for word, _ in saying[0] if word == saying[0][0][0]])


def beside(saying):
    """How many runs go beside those that lead."""
    return len(saying[0]) - leads(saying)


def leading_walks(table, saying, steps):
    return walks_by_runs(table, leads(saying), steps)


def walks_beside(table, saying, steps):
    """All walks of the runs beside the leading, rising; of none there's the walk of bare tuples."""
    return walks_by_runs(table, beside(saying), steps) if beside(saying) else [[()] * steps]


def answers_by_hand(table, saying, walk):
    """All walks of the others with which this one keeps the saying, rising."""
    return [other for other in walks_beside(table, saying, len(walk)) if kept(table, saying, side_by(walk, other))]


def stands_by_hand(table, saying, walk):
    """Whether it keeps the saying with each walk of the others."""
    return len(answers_by_hand(table, saying, walk)) == len(walks_beside(table, saying, len(walk)))


def values_by_hand(table, saying, walk):
    """The truths of all parts at the walk's last step."""
    return tuple(true_at(table, saying, walk, part, len(walk) - 1) for part in parts_of(saying[1]))


def many_by_hand(table, saying):
    """How many pairs of states and sets [11] counts."""
    sides = len(table.states) ** beside(saying) * 2 ** backs_of(saying[1])
    return len(table.states) ** leads(saying) * 2 ** sides


def shown_by(table, states):
    return tuple(dict(table.shows).get(state, ()) for state in states)


def moved(table, states):
    """All tuples of states to which moves of all lead."""
    return list(itertools.product(*[[other for one, other in table.moves if one == state] for state in states]))


def firsts_by_words(table, saying, states):
    """All pairs (states, values) of the others that can be beside these at a first step."""
    return {(others, values_of(saying, shown_by(table, states + others)))
            for others in itertools.product(table.begins, repeat=beside(saying))}


def behind_by_words(table, saying, few, states):
    """All pairs that come of these by moves, beside the states."""
    return {(others, values_of(saying, shown_by(table, states + others), ahead=values))
            for before, values in few for others in moved(table, before)}


def is_side_by_words(table, saying, thing, many):
    """Whether it's a pair of so many states and of truths of all parts, the body's true."""
    if type(thing) is not tuple or len(thing) != 2 or [type(one) for one in thing] != [tuple, tuple]:
        return False
    states, values = thing
    return (len(states) == many and all(type(state) is str and state in table.states for state in states)
            and [type(value) for value in values] == [bool] * len(parts_of(saying[1])) and values[-1])


def random_saying(chance, words, deep, most_backs=2):
    """A saying with these words; often one that binds its runs to one another."""
    heads = random_heads(chance, words, len(words))
    runs = [run for _, run in heads]
    while True:
        one, other = random_body(chance, runs, deep), random_body(chance, runs, deep)
        bodies = [one, ("or", ("not", one), other), ("not", ("ahead", one)), ("or", one, ("not", ("ahead", other)))]
        if len(runs) > 1:
            pair = chance.choice((runs[0], runs[1])), runs[-1]
            marks = tuple(sorted(chance.sample("xyz", chance.randint(1, 2))))
            if pair[0] != pair[1]:
                like = ("alike", *pair, marks)
                bodies += [like, ("or", like, ("not", one)), ("and", like, ("or", one, ("not", ("has", runs[-1], "z"))))]
        body = chance.choice(bodies)
        if is_saying((heads, body)) and backs_of(body) <= most_backs:
            return heads, body


def random_cases(chance, many, shapes, most, states=4):
    """Tables and sayings, of which [11] counts so many at most; shapes are the words of heads."""
    found = 0
    while found < many:
        table = random_table(chance, states, 2)
        saying = random_saying(chance, chance.choice(shapes), chance.randint(1, 3))
        if many_by_hand(table, saying) <= most:
            found += 1
            yield table, saying
