"""The moves of two loops from joint state to joint state, in steps of one cell.

One number can bring the kept numbers apart by any difference, or nearer by any.
So that d changes by at most 1 in each move, such a leap is taken in pieces: the
number itself costs 1, and what follows it costs nothing. In the midst of a leap
the gap has a word in the place of the sign: a leap away from 0 begins with LEAP
and goes on with RISE, one towards 0 begins with DIVE and goes on with FALL.
"""

from nearloops.pairs import FAR, between_cells, near_cells, outer_cells, spots_in
from nearloops.places import SIGNS

LEAP = "leap"
RISE = "rise"
DIVE = "dive"
FALL = "fall"


def is_whole(state):
    """Tell whether a joint state is one between two numbers, not one in the midst of a leap."""
    return isinstance(state[2], str) or state[2][1] in SIGNS


def outwards(d):
    """Return the step that leads away from 0."""
    return 1 if d > 0 else -1


def with_d(state, d):
    """Return a joint state with another d."""
    return (state[0], state[1], (d, state[2][1]))


def _landings(state):
    """Return the moves that end a leap: the sign can be any."""
    one, other, gap = state
    return [((one, other, (gap[0], sign)), 0) for sign in SIGNS]


def _leap_moves(state):
    """Return the moves in the midst of a leap."""
    one, other, gap = state
    d, word = gap
    outer = d + outwards(d)
    inner = d - outwards(d)
    if word == LEAP:
        return [((one, other, (outer, RISE)), 0)]
    if word == DIVE:
        return [((one, other, (inner, FALL)), 0)]
    if word == RISE:
        return [*_landings(state), ((one, other, (outer, RISE)), 0)]
    # A number that is below one kept number and above the other is two cells from both.
    if abs(d) > 2:
        return [*_landings(state), ((one, other, (inner, FALL)), 0)]
    return _landings(state)


def _has_leapt(state, later):
    """Tell whether, behind a number that is far from all kept ones, d depends on how far it is."""
    # It does if only one loop keeps the number, and the other one has a kept number, too.
    return not isinstance(later[2], str) and later[2] != (0, "=") and later[2] != state[2]


class Moves:
    """The moves of two loops, which are counted once for all d that are far from 0."""

    def __init__(self, pair):
        self.pair = pair
        self.counted = {}

    def moves_from(self, state):
        """Return pairs of a joint state to which this one leads and of the cost of the move."""
        gap = state[2]
        if isinstance(gap, str) or abs(gap[0]) <= FAR:
            return self._counted(state)
        d = FAR * outwards(gap[0])
        moves = []
        for later, cost in self._counted(with_d(state, d)):
            # Only what stays about d moves with it; all the rest ends about 0.
            if not isinstance(later[2], str) and abs(later[2][0] - d) <= 1:
                later = with_d(later, later[2][0] - d + gap[0])
            moves.append((later, cost))
        return moves

    def _counted(self, state):
        """Return the moves from a joint state, which are found only once."""
        if state not in self.counted:
            self.counted[state] = self._found(state)
        return self.counted[state]

    def _found(self, state):
        """Return the moves from a joint state."""
        if not is_whole(state):
            return _leap_moves(state)
        gap = state[2]
        found = {}
        for spot in spots_in(gap, near_cells(gap)):
            found[self.pair.later(state, spot)] = 1
        for cell in outer_cells(gap):
            later = self.pair.later(state, (cell, "=", "="))
            if _has_leapt(state, later):
                d = later[2][0]
                later = (later[0], later[1], (d - outwards(d), LEAP))
            found[later] = 1
        for cell in between_cells(gap):
            later = self.pair.later(state, (cell, "=", "="))
            if _has_leapt(state, later):
                later = (later[0], later[1], (gap[0] - outwards(gap[0]), DIVE))
            found[later] = 1
        return list(found.items())
