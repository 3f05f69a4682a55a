"""Tables of joint states, and papers: tables that show that two loops do the same."""

from nearloops.checks import check_kind, is_name
from nearloops.closed import held_states, is_closed, known_states
from nearloops.errors import BadTable
from nearloops.joints import LONE_GAPS
from nearloops.pairs import Pair
from nearloops.places import SIGNS
from nearloops.reached import reached_parts


def _checked_states(things, words):
    """Return the ascending tuple of the different triples of two names and one of the words, or raise BadTable."""
    if not isinstance(things, (list, tuple)):
        raise BadTable()
    states = {}
    for thing in things:
        if not isinstance(thing, (list, tuple)) or len(thing) != 3:
            raise BadTable()
        if not is_name(thing[0]) or not is_name(thing[1]):
            raise BadTable()
        if not isinstance(thing[2], str) or thing[2] not in words:
            raise BadTable()
        states[tuple(thing)] = True
    return tuple(sorted(states))


def _checked_levels(things):
    """Return the tuple of the levels, or raise BadTable."""
    if not isinstance(things, (list, tuple)) or len(things) < 3 or len(things) & 1 == 0:
        raise BadTable()
    return tuple([_checked_states(thing, SIGNS) for thing in things])


def _checked_period(thing, most):
    """Return a period, or raise BadTable."""
    if not isinstance(thing, int) or isinstance(thing, bool) or not 1 <= thing <= most:
        raise BadTable()
    return thing


class Table:
    """An immutable table."""

    def __init__(self, alone, levels, below, above):
        checked_alone = _checked_states(alone, LONE_GAPS)
        checked_levels = _checked_levels(levels)
        most = len(checked_levels) // 2
        checked_below = _checked_period(below, most)
        checked_above = _checked_period(above, most)
        self._alone = checked_alone
        self._levels = checked_levels
        self._below = checked_below
        self._above = checked_above

    @property
    def alone(self):
        """The ascending tuple of the joint states whose gap is a word."""
        return self._alone

    @property
    def levels(self):
        """The tuple of the levels, each as an ascending tuple of side states."""
        return self._levels

    @property
    def below(self):
        """The period of the levels below all that are listed."""
        return self._below

    @property
    def above(self):
        """The period of the levels above all that are listed."""
        return self._above

    def level(self, d):
        """Return the level of any integer d, as an ascending tuple of side states."""
        most = len(self._levels) // 2
        if d > most:
            d = most - (most - d) % self._above
        elif d < -most:
            d = (d + most) % self._below - most
        return self._levels[d + most]

    def __contains__(self, x):
        if not isinstance(x, (list, tuple)) or len(x) != 3:
            return False
        one, other, gap = x
        if not is_name(one) or not is_name(other):
            return False
        if isinstance(gap, str):
            return (one, other, gap) in self._alone
        if not isinstance(gap, (list, tuple)) or len(gap) != 2:
            return False
        d, sign = gap
        if not isinstance(d, int) or isinstance(d, bool) or not isinstance(sign, str):
            return False
        return (one, other, sign) in self.level(d)

    def __eq__(self, other):
        if not isinstance(other, Table):
            return False
        if self._alone != other._alone or self._levels != other._levels:
            return False
        return self._below == other._below and self._above == other._above


def _shows_none(pair, table, by):
    """Tell whether no joint state in a table shows a difference of the kind."""
    return all([pair.numbers_to_difference(state, by) is None for state in held_states(table)])


def paper(one, other, by="all"):
    """Return a paper for two loops, None if they do not do the same."""
    check_kind(by)
    pair = Pair(one, other)
    alone, levels, below, above = reached_parts(pair)
    table = Table(alone, levels, below, above)
    return table if _shows_none(pair, table, by) else None


def is_paper(one, other, table, by="all"):
    """Tell whether a table is a paper for two loops."""
    check_kind(by)
    pair = Pair(one, other)
    return known_states(pair, table) and _shows_none(pair, table, by) and is_closed(pair, table)
