"""Whether two loops do the same, and rows on which they do not."""

from nearloops.checks import check_kind
from nearloops.pairs import FAR, Pair
from nearloops.search import Search
from nearloops.witness import row_of, spots_between


def same(one, other, by="all"):
    """Tell whether two loops do the same."""
    return parting(one, other, by) is None


def parting(one, other, by="all"):
    """Return a shortest row, with a tolerance, on which the runs of two loops differ, None if there is none."""
    check_kind(by)
    pair = Pair(one, other)
    search = Search(pair, FAR, lambda state: pair.numbers_to_difference(state, by), [(pair.begin, 0)])
    states = search.shortest()
    if states is None:
        return None
    spots = spots_between(pair, states)
    if pair.numbers_to_difference(states[-1], by) == 1:
        spots.append(pair.spot_apart(states[-1], by))
    return row_of(pair, states, spots)
