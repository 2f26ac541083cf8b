"""Programs gone through by hand, straight by the words of [8], for several tests."""

import itertools
import math
import re

TERM = "(?:[a-z]{1,8}|[0-9])(?: [+-] (?:[a-z]{1,8}|[0-9]))?"
ROWS = (
    re.compile("var ([a-z]{1,8}) ([1-3]) ([0-3])"),
    re.compile("in ([a-z]{1,8}) ([1-3])"),
    re.compile("show ([a-z]{1,8})"),
    re.compile(f"set ([a-z]{{1,8}}) ({TERM})(?: when ({TERM}) ([=<>]) ({TERM}))?"),
)
SAMPLE = "var x 2 1\nvar y 1 0\nin i 1\nshow y\nshow i\nset x x + i when y < 1\nset y 1 - y"


def as_row(row):
    """The number of the row's kind and the words it tells; None."""
    for number, form in enumerate(ROWS):
        match = form.fullmatch(row)
        if match:
            return number, match.groups()
    return None


def names_in(term):
    return [word for word in (term or "").split(" ") if word.isalpha()]


def rows_stand(rows):
    """Whether these rows may stand one behind the other, straight by the words of [8]."""
    told = [as_row(row) for row in rows]
    if None in told or [number for number, _ in told] != sorted(number for number, _ in told):
        return False
    begun = [words for number, words in told if number == 0]
    read = [words for number, words in told if number == 1]
    shown = [words[0] for number, words in told if number == 2]
    mosts = {words[0]: int(words[1]) for words in begun + read}
    sets = [words for number, words in told if number == 3]
    return (len(mosts) == len(begun) + len(read) <= 7 and all(int(words[2]) <= int(words[1]) for words in begun)
            and math.prod(int(words[1]) + 1 for words in read) <= 8
            and math.prod(most + 1 for most in mosts.values()) <= 256
            and len(set(shown)) == len(shown) <= 4 and all(name in mosts and len(name) <= 7 for name in shown)
            and all(words[0] in [name for name, *_ in begun] for words in sets)
            and all(name in mosts for words in sets for name in
                    names_in(words[1]) + names_in(words[2]) + names_in(words[4])))


def told_row(text):
    """The number that BadRow tells; None."""
    rows = text.split("\n")
    for at in range(len(rows)):
        if not rows_stand(rows[:at + 1]):
            return at
    return None if rows[0].startswith("var ") else len(rows)


def reckoned(words, held):
    """What Python makes of these words, names being what they hold."""
    return eval(" ".join(str(held[word]) if word.isalpha() else word for word in words.split(" ")))


class Hand:
    """A program gone through by Python's own reckoning."""

    def __init__(self, text):
        told = [as_row(row) for row in text.split("\n")]
        self.vars = {words[0]: words for number, words in told if number == 0}
        self.ins = {words[0]: range(int(words[1]) + 1) for number, words in told if number == 1}
        self.shown = [words[0] for number, words in told if number == 2]
        self.sets = [words for number, words in told if number == 3]

    def all_of(self, held):
        firsts = tuple(held[name] for name in self.vars)
        return sorted(firsts + some for some in itertools.product(*self.ins.values()))

    def starts(self):
        return self.all_of({name: int(words[2]) for name, words in self.vars.items()})

    def nexts(self, numbers):
        held = dict(zip([*self.vars, *self.ins], numbers))
        for name, term, one, sign, other in self.sets:
            if sign is None or reckoned(f"{one} {sign.replace('=', '==')} {other}", held):
                held[name] = reckoned(term, held) % (int(self.vars[name][1]) + 1)
        return self.all_of(held)

    def marks(self, numbers):
        held = dict(zip([*self.vars, *self.ins], numbers))
        return tuple(sorted(name + "abcd"[held[name]] for name in self.shown))


def random_text(chance):
    """A program of one to four vars, with ins, shows, and sets."""
    begun = list("abcd"[:chance.randint(1, 4)])
    read = list("ij"[:chance.randint(0, 2)])
    most = 3 if len(begun) < 3 and len(read) < 2 else 1
    rows = []
    for name in begun:
        high = chance.randint(1, most)
        rows.append(f"var {name} {high} {chance.randint(0, high)}")
    rows += [f"in {name} {chance.randint(1, most)}" for name in read]
    rows += [f"show {name}" for name in chance.sample(begun + read, min(4, chance.randint(0, len(begun + read))))]

    def term():
        words = [chance.choice(begun + read + list("0123456789")) for _ in range(2)]
        return chance.choice((words[0], f" {chance.choice('+-')} ".join(words)))

    for _ in range(chance.randint(0, 5)):
        row = f"set {chance.choice(begun)} {term()}"
        rows.append(row + chance.choice(("", f" when {term()} {chance.choice('=<>')} {term()}")))
    return "\n".join(rows)
