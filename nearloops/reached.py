"""All joint states that are reached, in the form of a table.

While they are looked for, a d of FAR + 1, or its negative, stands for all that are
further from 0 than FAR.
"""

from nearloops.moves import Moves, is_whole, outwards, with_d
from nearloops.pairs import FAR
from nearloops.sides import Side, node_of, with_node


def _is_descent(gap, later):
    """Tell whether this is a move by one cell towards 0 from a d that stands for greater ones."""
    # From FAR on no d is passed over, so what such a move comes to is found there, by climbs.
    return not isinstance(gap, str) and abs(gap[0]) > FAR and abs(later[0] - gap[0]) == 1


class Reached:
    """The joint states that two loops reach, also those in the midst of leaps."""

    def __init__(self, pair):
        self.moves = Moves(pair)
        self.sides = {1: Side(self.moves, 1), -1: Side(self.moves, -1)}
        self.found = {}
        self.queue = []
        self._find(pair.begin)
        while len(self.queue) > 0:
            self._follow(self.queue.pop())

    def _find(self, state):
        """Take note of a joint state, once."""
        if state not in self.found:
            self.found[state] = True
            self.queue.append(state)

    def _follow(self, state):
        """Find all joint states to which one leads."""
        gap = state[2]
        if not isinstance(gap, str) and abs(gap[0]) >= FAR:
            side = self.sides[outwards(gap[0])]
            for node in side.nodes_in(side.climbed(side.mask_of([node_of(state)]))):
                self._find(with_node(node, gap[0]))
        for later, _ in self.moves.moves_from(state):
            if not isinstance(later[2], str) and abs(later[2][0]) > FAR:
                self._find(with_d(later, (FAR + 1) * outwards(later[2][0])))
            elif not _is_descent(gap, later[2]):
                self._find(later)

    def lone_states(self):
        """Return the joint states whose gap is a word."""
        return [state for state in self.found if isinstance(state[2], str)]

    def inner_level(self, d):
        """Return the side states with a d of at most FAR."""
        states = [state for state in self.found if not isinstance(state[2], str) and state[2][0] == d]
        return [node_of(state) for state in states if is_whole(state)]

    def outer_levels(self, direction):
        """Return the levels from FAR on until they come again, and how many of them come again and again."""
        side = self.sides[direction]
        states = [state for state in self.found if not isinstance(state[2], str) and state[2][0] == direction * FAR]
        mask = side.mask_of([node_of(state) for state in states])
        levels = []
        places = {}
        while mask not in places:
            places[mask] = len(levels)
            levels.append(side.side_states(mask))
            mask = side.climbed(side.risen(mask))
        return levels, len(levels) - places[mask]


def _continued(levels, period, many):
    """Return so many levels: those that are given, and then the last ones again and again."""
    continued = list(levels)
    while len(continued) < many:
        continued.append(continued[len(continued) - period])
    return continued


def reached_parts(pair):
    """Return what a table of all joint states that are reached is made of."""
    reached = Reached(pair)
    upper, above = reached.outer_levels(1)
    lower, below = reached.outer_levels(-1)
    many = max(len(upper), len(lower))
    levels = _continued(lower, below, many)[::-1]
    levels.extend([reached.inner_level(d) for d in range(1 - FAR, FAR)])
    levels.extend(_continued(upper, above, many))
    return reached.lone_states(), levels, below, above
