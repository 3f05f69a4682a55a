"""Whether a table is closed, and all that it holds."""

from nearloops.moves import LEAP, Moves, is_whole
from nearloops.pairs import FAR, clipped
from nearloops.places import SIGNS


def middle_of(table):
    """Return the m of a table: its levels are those from -m to m."""
    return len(table.levels) // 2


def known_states(pair, table):
    """Tell whether all states in a table are states of the two."""
    sides = [side for level in table.levels for side in level]
    states = [*table.alone, *sides]
    return all([state[0] in pair.one_states and state[1] in pair.other_states for state in states])


def held_states(table):
    """Return the joint states that a table holds; one with a d of FAR stands for all with greater ones."""
    found = {state: True for state in table.alone}
    limit = middle_of(table) + max(table.below, table.above) + FAR
    for d in range(-limit, limit + 1):
        for one, other, sign in table.level(d):
            found[clipped((one, other, (d, sign)))] = True
    return list(found)


class Holdings:
    """What a table holds of two loops, leaps included."""

    def __init__(self, table):
        self.table = table
        self.middle = middle_of(table)
        # Up to here each level of a period stands beside each one near to it, and beside all below it.
        self.limit = self.middle + max(table.below, table.above) + FAR + 2
        self.lone = {state: True for state in table.alone}
        self.sides = {d: self._side_states(d) for d in range(-self.limit - 1, self.limit + 2)}
        self.gaps_known = {}

    def _side_states(self, d):
        """Return the side states of a level, as the keys of a dict."""
        return {side: True for side in self.table.level(d)}

    def to_follow(self):
        """Return the joint states from which all must be held to which they lead."""
        states = list(self.lone)
        for d in range(-self.limit, self.limit + 1):
            states.extend([(one, other, (d, sign)) for one, other, sign in self.sides[d]])
        return states

    def holds(self, state):
        """Tell whether the table holds a joint state; one in the midst of a leap if it holds all behind it."""
        one, other, gap = state
        if isinstance(gap, str):
            return state in self.lone
        d, mark = gap
        if is_whole(state):
            return (one, other, mark) in self.sides[d]
        missing = self._missing(one, other, d > 0)
        if len(missing) == 0:
            return True
        if mark == LEAP:
            # The last level that is looked at stands for others, further from 0.
            return missing[-1] <= min(abs(d), self.middle)
        return missing[0] >= abs(d)

    def _missing(self, one, other, is_up):
        """Return the distances from 0, from 2 on, at which not all signs are held with two states."""
        key = (one, other, is_up)
        if key not in self.gaps_known:
            missing = []
            for distance in range(2, self.limit + 1):
                sides = self.sides[distance if is_up else -distance]
                if not all([(one, other, sign) in sides for sign in SIGNS]):
                    missing.append(distance)
            self.gaps_known[key] = missing
        return self.gaps_known[key]


def is_closed(pair, table):
    """Tell whether a table is closed."""
    holdings = Holdings(table)
    if not holdings.holds(pair.begin):
        return False
    moves = Moves(pair)
    for state in holdings.to_follow():
        for later, _ in moves.moves_from(state):
            if not holdings.holds(later):
                return False
    return True
