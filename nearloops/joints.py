"""Joint states of two loops."""

from nearloops.checks import is_number
from nearloops.errors import BadJoint
from nearloops.pairs import Pair
from nearloops.places import SIGNS, sign_of
from nearloops.runs import run
from nearloops.search import Search
from nearloops.witness import row_of, spots_between

LONE_GAPS = ("none", "first", "second")


def gap_of(kept, other_kept, tolerance):
    """Return the gap of the kept numbers of two loops."""
    if kept is None and other_kept is None:
        return "none"
    if other_kept is None:
        return "first"
    if kept is None:
        return "second"
    cell, rest = divmod(kept, tolerance)
    other_cell, other_rest = divmod(other_kept, tolerance)
    return (other_cell - cell, sign_of(other_rest, rest))


def joint(one, other, row, tolerance):
    """Return the joint state of two loops behind a row."""
    told = run(one, row, tolerance)
    other_told = run(other, row, tolerance)
    return (told.state, other_told.state, gap_of(told.last, other_told.last, tolerance))


def _is_gap(thing):
    """Tell whether any object is a gap."""
    if isinstance(thing, str):
        return thing in LONE_GAPS
    if not isinstance(thing, (list, tuple)) or len(thing) != 2:
        return False
    return is_number(thing[0]) and isinstance(thing[1], str) and thing[1] in SIGNS


def _is_state(loop, thing):
    """Tell whether any object is a state of a loop."""
    return isinstance(thing, str) and thing in loop.states


def _checked(one, other, state):
    """Return a joint state as tuples, or raise BadJoint."""
    if not isinstance(state, (list, tuple)) or len(state) != 3:
        raise BadJoint(state)
    if not _is_state(one, state[0]) or not _is_state(other, state[1]) or not _is_gap(state[2]):
        raise BadJoint(state)
    gap = state[2] if isinstance(state[2], str) else tuple(state[2])
    return (state[0], state[1], gap)


def leads(one, other, state, later):
    """Tell whether a joint state leads to a later one."""
    before = _checked(one, other, state)
    behind = _checked(one, other, later)
    return Pair(one, other).spot_to(before, behind) is not None


def way(one, other, state):
    """Return a shortest row, with a tolerance, behind which two loops are in a joint state, None if there is none."""
    wanted = _checked(one, other, state)
    pair = Pair(one, other)
    height = 0 if isinstance(wanted[2], str) else abs(wanted[2][0])
    search = Search(pair, height, lambda reached: 0 if reached == wanted else None, [(pair.begin, 0)])
    states = search.shortest()
    if states is None:
        return None
    return row_of(pair, states, spots_between(pair, states))
