"""Two loops, or a loop and something else: their joint states, and what they do with one number.

A spot tells where a number lies: a triple of its cell, counted from that of the
kept number of the first loop (of the second loop if it alone has one), and of
the signs of its rest at the rests of the two kept numbers.
"""

from nearloops.places import PLACES, place_at
from nearloops.steps import step

TURNED_SIGNS = {"<": ">", "=": "=", ">": "<"}

# The signs that a rest can have at the rests of two kept numbers, for each sign
# of the second kept number at the first one. Equal ones come first, as they need
# no new rest.
PAIRS_OF_SIGNS = {
    "<": (("<", "="), ("=", ">"), ("<", "<"), ("<", ">"), (">", ">")),
    "=": (("=", "="), ("<", "<"), (">", ">")),
    ">": (("=", "<"), (">", "="), ("<", "<"), (">", "<"), (">", ">")),
}

# From this d on no number is near to both kept numbers, and some lie between.
FAR = 4


def clipped(state):
    """Return the joint state with a d of FAR, or its negative, that is like one with a d further from 0."""
    one, other, gap = state
    if isinstance(gap, str):
        return state
    return (one, other, (max(-FAR, min(FAR, gap[0])), gap[1]))


def _all_steps(loop):
    """Return a dict from pairs of a state and a place to what the loop does there."""
    places = [*PLACES, "none"]
    return {(state, place): step(loop, state, place) for state in loop.states for place in places}


def near_cells(gap):
    """Return the cells of the numbers that are not below and not above all kept numbers."""
    if gap == "none":
        return [0]
    if isinstance(gap, str):
        return [-1, 0, 1]
    cells = [-1, 0, 1]
    for cell in [gap[0] - 1, gap[0], gap[0] + 1]:
        if cell not in cells:
            cells.append(cell)
    return cells


def outer_cells(gap):
    """Return the nearest cells of the numbers that are below, and above, all kept numbers."""
    if gap == "none":
        return []
    if isinstance(gap, str):
        return [-2, 2]
    return [min(0, gap[0]) - 2, max(0, gap[0]) + 2]


def between_cells(gap):
    """Return one cell of the numbers that are below one kept number and above the other one."""
    if isinstance(gap, str) or abs(gap[0]) < FAR:
        return []
    return [2] if gap[0] > 0 else [-2]


def _wanted_cells(gap, later):
    """Return the cells of the numbers that would make the later gap if one loop kept them."""
    if isinstance(later, str) or gap == "none":
        return []
    if gap == "first":
        return [later[0]]
    if gap == "second":
        return [-later[0]]
    return [later[0], gap[0] - later[0]]


def spots_in(gap, cells):
    """Return the spots in these cells."""
    sign = "=" if isinstance(gap, str) else gap[1]
    return [(cell, one, other) for cell in cells for one, other in PAIRS_OF_SIGNS[sign]]


def _later_gap(gap, spot, keeps, other_keeps):
    """Return the gap behind a number at a spot which the loops keep or do not."""
    if keeps and other_keeps:
        return (0, "=")
    cell, sign, other_sign = spot
    if keeps:
        if gap == "none" or gap == "first":
            return "first"
        d = 0 if gap == "second" else gap[0]
        return (d - cell, TURNED_SIGNS[other_sign])
    if other_keeps:
        if gap == "none" or gap == "second":
            return "second"
        return (cell, sign)
    return gap


def _places(gap, spot):
    """Return the places of a number at a spot for the two loops."""
    cell, sign, other_sign = spot
    if gap == "none":
        return "none", "none"
    if gap == "first":
        return place_at(cell, sign), "none"
    if gap == "second":
        return "none", place_at(cell, other_sign)
    return place_at(cell, sign), place_at(cell - gap[0], other_sign)


class Duo:
    """A loop and something beside it that reads the same row, and has states and a kept number, too."""

    def __init__(self, loop, other_states, gap):
        self.one_states = loop.states
        self.other_states = other_states
        self.one_steps = _all_steps(loop)
        self.begin = (loop.start, other_states[0], gap)

    def other_step(self, state, found, word):
        """Return what the other one does with a number at the place found, for which the loop tells the word."""
        raise NotImplementedError("each class of duos has its own")

    def told(self, state, spot):
        """Return what the two do with a number at a spot: a word, whether it is kept and a state of each."""
        place, other_place = _places(state[2], spot)
        one = self.one_steps[(state[0], place)]
        return one, self.other_step(state[1], other_place, one[0])

    def later(self, state, spot):
        """Return the joint state behind a number at a spot."""
        one, other = self.told(state, spot)
        return (one[2], other[2], _later_gap(state[2], spot, one[1], other[1]))

    def spot_to(self, state, later):
        """Return a spot of a number that leads to the later joint state, None if none does."""
        gap = state[2]
        cells = near_cells(gap) + outer_cells(gap) + between_cells(gap) + _wanted_cells(gap, later[2])
        for spot in spots_in(gap, cells):
            if self.later(state, spot) == later:
                return spot
        return None

    def spot_where(self, state, is_wanted):
        """Return a spot of a number with which the two do something that is wanted, None if there is none."""
        gap = state[2]
        for spot in spots_in(gap, near_cells(gap) + outer_cells(gap) + between_cells(gap)):
            one, other = self.told(state, spot)
            if is_wanted(one, other):
                return spot
        return None


class Pair(Duo):
    """Two loops that run on the same row."""

    def __init__(self, one, other):
        super().__init__(one, other.states, "none")
        self.other_steps = _all_steps(other)
        self.one_answers = one.answers
        self.other_answers = other.answers

    def other_step(self, state, found, word):
        """Return what the second loop does with a number at the place found."""
        return self.other_steps[(state, found)]

    def spot_apart(self, state, by):
        """Return a spot of a number from which the loops tell or keep something else, None if there is none."""
        if by == "words":
            return self.spot_where(state, lambda one, other: one[0] != other[0])
        if by == "keeps":
            return self.spot_where(state, lambda one, other: one[1] != other[1])
        return self.spot_where(state, lambda one, other: one[:2] != other[:2])

    def numbers_to_difference(self, state, by):
        """Return how many numbers show a difference of this kind, 0 or 1, None if more are needed."""
        if by in ("answers", "all") and self.one_answers[state[0]] != self.other_answers[state[1]]:
            return 0
        if by != "answers" and self.spot_apart(state, by) is not None:
            return 1
        return None
