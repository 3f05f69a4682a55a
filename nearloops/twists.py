"""Rows of which a loop reads a part in two ways, and then has two answers.

A twist is a pair of readings, lists of indexes, of one or two new numbers. Before
it a loop and the same loop beside it do the same; behind it they go on together,
as two loops do, from the joint state to which the two readings lead.

The new numbers, and the kept one before them if there is one, are looked at as
marks: integers with a tolerance of their own, of which the first one is MIDDLE.
"""

from nearloops.joints import gap_of
from nearloops.moves import RISE
from nearloops.pairs import FAR, Pair, clipped
from nearloops.places import place
from nearloops.search import Search
from nearloops.solo import lone_ways
from nearloops.witness import Draft, spots_between

# The second mark has one of three rests, and so a third one can lie in any way to the two.
# Equal rests and near cells come first: they make the simplest rows.
TOLERANCE = 7
MIDDLE = 3
SECOND_RESTS = (3, 1, 5)
THIRD_RESTS = (3, 1, 5, 0, 2, 4, 6)


def _all_marks(many):
    """Return lists of so many marks, of all shapes that matter."""
    found = [[MIDDLE]]
    # With no more cells two marks can lie so far apart that d is FAR, and the third one beyond them.
    reach = FAR + 2
    cells = sorted(range(-reach, reach + 1), key=abs)
    if many > 1:
        found = [[MIDDLE, cell * TOLERANCE + rest] for cell in cells for rest in SECOND_RESTS]
    if many > 2:
        thirds = [cell * TOLERANCE + rest for cell in cells for rest in THIRD_RESTS]
        found = [[*marks, third] for marks in found for third in thirds]
    return found


def _stretched(marks, kept, d):
    """Return marks of which two kept ones lie as far apart as d says, given some with a d of FAR."""
    upper = max(kept[0], kept[1]) // TOLERANCE
    more = (abs(d) - FAR) * TOLERANCE
    # What is near to the upper one, or above it, goes with it; what is between the two stays between.
    return [mark + more if mark // TOLERANCE >= upper - 1 else mark for mark in marks]


def _as_numbers(draft, marks, kept):
    """Return the numbers of a draft that lie to each other as the marks do; the first one is kept, if one is."""
    cell, middle = (0, draft.new_rest(0)) if kept is None else kept
    # A stretch may have moved the first mark, too.
    more = cell - marks[0] // TOLERANCE
    at = draft.rests.index(middle)
    rests = {}
    for rest in sorted(set([mark % TOLERANCE for mark in marks])):
        rests[rest] = middle if rest == MIDDLE else draft.new_rest(at)
        at += 1
    return [(more + mark // TOLERANCE, rests[mark % TOLERANCE]) for mark in marks]


class Origin:
    """How a twist leads to a joint state."""

    def __init__(self, way, marks, ends):
        self.way = way
        self.marks = marks
        # For both loops the index of the mark that is kept, None if there is none.
        self.ends = ends


class Twist:
    """What a loop does when it reads some numbers in two ways."""

    def __init__(self, loop, readings, new_count):
        self.readings = readings
        self.new_count = new_count
        self.pair = Pair(loop, loop)
        self.origins = {}
        ways = lone_ways(self.pair)
        for state in ways:
            self._begin(ways[state])

    def parting(self):
        """Return a shortest row with two answers, its tolerance and where the twist begins, None if there is none."""
        goal = lambda state: self.pair.numbers_to_difference(state, "answers")
        states = Search(self.pair, FAR, goal, self._starts()).shortest()
        return None if states is None else self.written(states)

    def _begin(self, way):
        """Take note of all joint states to which the twist leads from the end of a way."""
        state, _, gap = way[-1]
        old = 0 if gap == "none" else 1
        for marks in _all_marks(old + self.new_count):
            ends = [self._read(state, old, marks, reading) for reading in self.readings]
            one, other = [None if at is None else marks[at] for _, at in ends]
            later = (ends[0][0], ends[1][0], gap_of(one, other, TOLERANCE))
            # The ways come in the order of their lengths: the first one is a shortest one.
            if later not in self.origins:
                self.origins[later] = Origin(way, marks, [at for _, at in ends])

    def _read(self, state, old, marks, reading):
        """Return the state, and the index of the kept mark, behind the new marks of a reading."""
        kept = 0 if old == 1 else None
        for at in reading:
            found = "none" if kept is None else place(marks[old + at], marks[kept], TOLERANCE)
            _, keeps, state = self.pair.one_steps[(state, found)]
            if keeps:
                kept = old + at
        return state, kept

    def _starts(self):
        """Return the joint states behind the twist, with their costs; a leap stands for all that are far from 0."""
        starts = []
        for state, origin in self.origins.items():
            one, other, gap = state
            cost = len(origin.way) - 1 + self.new_count
            if isinstance(gap, str) or abs(gap[0]) < FAR:
                starts.append((state, cost))
            elif abs(gap[0]) == FAR:
                starts.append(((one, other, (gap[0], RISE)), cost))
        return starts

    def written(self, states):
        """Return the row, its tolerance and where the twist begins, given the joint states behind the twist."""
        origin = self.origins[clipped(states[0])]
        marks = origin.marks
        if clipped(states[0]) != states[0]:
            marks = _stretched(marks, [marks[at] for at in origin.ends], states[0][2][0])
        draft = Draft()
        kept = draft.follow(self.pair, origin.way, spots_between(self.pair, origin.way), (None, None))
        index = len(draft.numbers)
        numbers = _as_numbers(draft, marks, kept[0])
        draft.numbers.extend(numbers[-self.new_count:])
        ends = [None if at is None else numbers[at] for at in origin.ends]
        draft.follow(self.pair, states, spots_between(self.pair, states), ends)
        return draft.row(), draft.rank_count(), index
