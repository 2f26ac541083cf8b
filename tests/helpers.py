"""What several tests use: sample tables and sayings, spoilt things, kinds of things."""

import itertools

from manyruns.tables import Table


def kinds(thing):
    """The thing's kind, and those of all that is in it."""
    if isinstance(thing, (tuple, list)):
        return (type(thing), [kinds(one) for one in thing])
    return type(thing)


def nested(depth, inner, kind):
    """The inner thing in so many lists or tuples of one."""
    for _ in range(depth):
        inner = kind([inner])
    return inner


def as_list(thing):
    """The lists in the tuples' stead, at each depth."""
    return [as_list(one) for one in thing] if isinstance(thing, tuple) else thing


def changed(thing, swap):
    """All things that come of this one by swapping one thing in it, or itself."""
    found = [swap(thing)]
    if isinstance(thing, (tuple, list)):
        for at, inner in enumerate(thing):
            for one in changed(inner, swap):
                found.append(thing[:at] + type(thing)([one]) + thing[at + 1:])
    return found


# Things of each kind of which is_.. and shows_.. may be asked, that are no
# walks, sayings or papers, nor names, truths or tuples of such.
ODD_THINGS = (
    None, 0, 1, -1, 2, 10 ** 5000, "", "a", "all", "a b", (), ("",), ("a", None), [None], [[]], [()], ((),), ([],),
    [1], [True], (True,), (1, 2), [(1,)], [("a", 1)], [("",)], nested(20, "a", tuple), nested(20, "a", list),
    nested(19, (), tuple), nested(19, [], list), nested(20, True, list), nested(20, 7, tuple),
)


def deep_copy(thing):
    """The same thing, its lists and tuples new."""
    return type(thing)([deep_copy(one) for one in thing]) if isinstance(thing, (tuple, list)) else thing


def full_table(many, shows=(), begins=None):
    """So many states, called by letters, with all moves; all begin, or these."""
    states = tuple("abcdefgh"[:many])
    return Table(states, tuple(itertools.product(states, states)), begins=begins or states, shows=shows)


def ring_table(many, shows=()):
    """So many states in a ring; the first one begins."""
    states = tuple("abcdefgh"[:many])
    moves = tuple((state, states[(at + 1) % many]) for at, state in enumerate(states))
    return Table(states, moves, begins=("a",), shows=shows)


def sample_table():
    """Three states, of which two begin, and five moves; one state shows nothing."""
    return Table(("a", "b", "c"), (("a", "a"), ("a", "b"), ("b", "a"), ("b", "c"), ("c", "c")),
                 begins=("a", "c"), shows=(("a", ("x",)), ("c", ("x", "y"))))


def random_table(random, most=4, moves=2):
    """A table of at most so many states, with so many moves of each at most."""
    states = tuple("abcdefgh"[:random.randint(1, most)])
    pairs = sorted((one, other) for one in states
                   for other in random.sample(states, random.randint(1, min(moves, len(states)))))
    shows = tuple((state, tuple(sorted(random.sample("xyz", random.randint(1, 2)))))
                  for state in states if random.random() < 0.7)
    begins = tuple(sorted(random.sample(states, random.randint(1, min(2, len(states))))))
    return Table(states, tuple(pairs), begins=begins, shows=shows)


def random_body(random, runs, deep):
    """A body of these runs, that tells of marks x, y, z, and is at most so deep."""
    leaves = ["has", "has"] + ["alike"] * (len(runs) > 1)
    word = random.choice(leaves if deep <= 1 else leaves + ["not", "and", "or", "ahead", "ever", "since"])
    if word == "has":
        return (word, random.choice(runs), random.choice("xyz"))
    if word == "alike":
        return (word, *random.sample(runs, 2), tuple(sorted(random.sample("xyz", random.randint(1, 3)))))
    many = 1 if word in ("not", "ahead", "ever") else 2
    return (word, *[random_body(random, runs, deep - 1) for _ in range(many)])


def random_heads(random, words, many):
    """Heads of so many runs, that have these words in their order."""
    names = random.sample(("p", "q", "r", "all", "zzzzzzzz"), many)
    return tuple(zip(words, names))


def backs_of(body):
    """How many parts look back, by going into the body."""
    return (body[0] in ("ahead", "ever", "since")) + sum(backs_of(one) for one in body[1:] if isinstance(one, tuple)
                                                         and one and body[0] not in ("has", "alike"))


def true_at(table, saying, walk, part, step):
    """Whether the part is true at this step of the walk, straight by the words of [7]."""
    runs = [run for _, run in saying[0]]

    def shows(run, mark):
        return mark in dict(table.shows).get(walk[step][runs.index(run)], ())

    def at(body, there):
        return true_at(table, saying, walk, body, there)

    word = part[0]
    if word == "has":
        return shows(part[1], part[2])
    if word == "alike":
        return {mark for mark in part[3] if shows(part[1], mark)} == {mark for mark in part[3] if shows(part[2], mark)}
    if word == "not":
        return not at(part[1], step)
    if word == "and":
        return at(part[1], step) and at(part[2], step)
    if word == "or":
        return at(part[1], step) or at(part[2], step)
    if word == "ahead":
        return step > 0 and at(part[1], step - 1)
    if word == "ever":
        return any(at(part[1], there) for there in range(step + 1))
    return any(at(part[2], there) and all(at(part[1], later) for later in range(there + 1, step + 1))
               for there in range(step + 1))


def all_walks(table, many, steps):
    """All walks, by going through each list of so many tuples of states by hand."""
    tuples = list(itertools.product(table.states, repeat=many))
    return [list(walk) for walk in itertools.product(tuples, repeat=steps) if fits(table, walk)]


def fits(table, walk):
    """Whether these tuples of states, one behind the other, begin and go on as a walk."""
    runs = list(zip(*walk))
    return (all(run[0] in table.begins for run in runs)
            and all(move in table.moves for run in runs for move in zip(run, run[1:])))


def walks_by_runs(table, many, steps):
    """All walks, rising, by putting single runs beside one another."""
    runs = [(state,) for state in table.begins]
    for _ in range(steps - 1):
        runs = [run + (other,) for run in runs for one, other in table.moves if one == run[-1]]
    return sorted([list(zip(*some)) for some in itertools.product(runs, repeat=many)])
