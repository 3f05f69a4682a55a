"""The excursions of two loops."""

from nearloops.moves import Moves
from nearloops.pairs import Pair
from nearloops.places import SIGNS
from nearloops.sides import Side


def excursions(one, other):
    """Return the ascending list of all excursions of two loops, pairs of side states."""
    side = Side(Moves(Pair(one, other)), 1)
    found = []
    for first in [(state, later, sign) for state in one.states for later in other.states for sign in SIGNS]:
        climbed = side.climbed(side.mask_of([first]))
        found.extend([(first, last) for last in side.side_states(climbed)])
    return sorted(found)
