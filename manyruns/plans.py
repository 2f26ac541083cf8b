"""Plans that answer a run step by step, from what has been seen of it.

A place is a tuple (window, states, values): what is seen of the asked run, it
being in the window's first, and a side of the answering runs.
"""

from manyruns.besides import Beside, how_many_lead
from manyruns.bodies import kind_of
from manyruns.errors import BadKind, TooGreat
from manyruns.rules import PLACES
from manyruns.shapes import is_tuple_of, is_truths
from manyruns.stepping import Keeping, all_come, many_sides


def _refuse(table, saying, ahead):
    kind = kind_of(saying)
    if kind != "answer" or how_many_lead(saying) != 1:
        raise BadKind(kind)
    many = many_sides(table, saying, ahead)
    if many > PLACES:
        raise TooGreat(many)


class Seeing:
    """A table and a saying, with so many steps of the asked run seen ahead."""

    def __init__(self, table, saying, ahead):
        self._table = table
        self._beside = Beside(table, saying)
        self.seen = 1 + ahead
        self.others = self._beside.others
        self.parts = len(self._beside.rows)

    def windows_from(self, states):
        """All windows whose first is one of these states, rising if they are."""
        windows = [(state,) for state in states]
        for _ in range(self.seen - 1):
            windows = [window + (state,) for window in windows for state in self._table.next_of(window[-1])]
        return windows

    def first_windows(self):
        """All windows that can be seen at first, rising."""
        return self.windows_from(self._table.begins)

    def next_windows(self, window):
        """All next windows of this one, rising."""
        return [window[1:] + (state,) for state in self._table.next_of(window[-1])]

    def first_places(self, window):
        """All of a first step with this window, whether the body is true there or not, rising."""
        return [(window, *side) for side in self._beside.firsts(window[:1])]

    def places_behind(self, place, window):
        """All to which this one leads, with this next window, likewise, rising by states."""
        return [(window, *side) for side in self._beside.behind(place[1:], window[:1])]

    def is_window(self, thing):
        """Whether it's a window."""
        return (is_tuple_of(thing, self._table.states, self.seen)
                and all([move in self._table.moves for move in zip(thing, thing[1:])]))

    def are_others(self, thing):
        """Whether it's a tuple of states of the answering."""
        return is_tuple_of(thing, self._table.states, self.others)


def _places(table, saying, seeing):
    """All places: what can be seen of the asked run, where its walk with the answering is kept so far."""
    found = []
    for states, values in all_come(Keeping(table, saying)):
        found += [(window, states[1:], values) for window in seeing.windows_from(states[:1])]
    return found


def _staying(table, saying, seeing):
    """The places that stay together, each beside a list for each next window: the places to which it leads."""
    leads = {}
    for place in _places(table, saying, seeing):
        leads[place] = [seeing.places_behind(place, window) for window in seeing.next_windows(place[0])]
    while True:
        left = {place: leads[place] for place in leads if all([_has_one(some, leads) for some in leads[place]])}
        if len(left) == len(leads):
            return leads
        leads = left


def _has_one(some, there):
    return any([one in there for one in some])


def _first_of(some, there):
    """The first of these that is there; None."""
    for one in some:
        if one in there:
            return one
    return None


def places_of(table, saying, *, ahead=0):
    """The places that stay together, rising."""
    _refuse(table, saying, ahead)
    return sorted(list(_staying(table, saying, Seeing(table, saying, ahead))))


def plan_of(table, saying, *, ahead=0):
    """The rows (place, window, states) by which each run is answered, () in the place's stead at first; None."""
    _refuse(table, saying, ahead)
    seeing = Seeing(table, saying, ahead)
    leads = _staying(table, saying, seeing)
    rows = []
    waiting = []
    for window in seeing.first_windows():
        place = _first_of(seeing.first_places(window), leads)
        if place is None:
            return None
        rows.append(((), window, place[1]))
        waiting.append(place)
    come = {}
    while waiting:
        place = waiting.pop()
        if place not in come:
            come[place] = True
            behind = [_first_of(some, leads) for some in leads[place]]
            rows += [(place, other[0], other[1]) for other in behind]
            waiting += behind
    # The bare tuple of the first rows is below each place.
    return sorted(rows)


def _is_place(seeing, thing):
    return (isinstance(thing, tuple) and len(thing) == 3 and seeing.is_window(thing[0])
            and seeing.are_others(thing[1]) and is_truths(thing[2], seeing.parts))


def _is_row(seeing, thing):
    return (isinstance(thing, tuple) and len(thing) == 3 and (thing[0] == () or _is_place(seeing, thing[0]))
            and seeing.is_window(thing[1]) and seeing.are_others(thing[2]))


def _choices_of(plan):
    """The states that each row of the plan tells, by its place and window."""
    return {(place, window): states for place, window, states in plan}


def _chosen(some, states):
    """Of these places the one with these states; None."""
    for place in some:
        if place[1] == states:
            return place
    return None


def shows_plan(table, saying, thing, *, ahead=0):
    """Whether it's a list of rows by which each run is answered, step by step."""
    _refuse(table, saying, ahead)
    seeing = Seeing(table, saying, ahead)
    if not isinstance(thing, list) or not all([_is_row(seeing, row) for row in thing]):
        return False
    choices = _choices_of(thing)
    if len(choices) != len(thing):
        return False
    waiting = [_chosen(seeing.first_places(window), choices.get(((), window))) for window in seeing.first_windows()]
    come = {}
    while waiting:
        place = waiting.pop()
        if place is None or not place[2][-1]:
            return False
        if place not in come:
            come[place] = True
            waiting += [_chosen(seeing.places_behind(place, window), choices.get((place, window)))
                        for window in seeing.next_windows(place[0])]
    return True


def answer_by(table, saying, plan, run, *, ahead=0):
    """The walk of the answering, by this plan, to what the run's states show step by step."""
    _refuse(table, saying, ahead)
    seeing = Seeing(table, saying, ahead)
    choices = _choices_of(plan)
    place = ()
    walk = []
    for at in range(len(run) - ahead):
        window = tuple(run[at:at + seeing.seen])
        states = choices[(place, window)]
        behind = seeing.places_behind(place, window) if place else seeing.first_places(window)
        place = _chosen(behind, states)
        walk.append(states)
    return walk
