"""Whether two loops do the same, and rows on which they do not."""

from nearloops.errors import BadKind
from nearloops.pairs import FAR, Pair
from nearloops.search import Search
from nearloops.witness import row_of, spots_between

KINDS = ("words", "keeps", "answers", "all")


def _check_kind(by):
    """Raise BadKind for any object that is not one of the four kinds."""
    if not isinstance(by, str) or by not in KINDS:
        raise BadKind(by)


def _numbers_to_parting(pair, state, by):
    """Return how many numbers part the loops from a joint state, 0 or 1, or None if more are needed."""
    if by in ("answers", "all") and pair.answers_differ(state):
        return 0
    if by != "answers" and pair.spot_apart(state, by) is not None:
        return 1
    return None


def same(one, other, by="all"):
    """Tell whether two loops do the same."""
    return parting(one, other, by) is None


def parting(one, other, by="all"):
    """Return a shortest row, with a tolerance, on which the runs of two loops differ, None if there is none."""
    _check_kind(by)
    pair = Pair(one, other)
    states = Search(pair, FAR, lambda state: _numbers_to_parting(pair, state, by)).shortest()
    if states is None:
        return None
    spots = spots_between(pair, states)
    if _numbers_to_parting(pair, states[-1], by) == 1:
        spots.append(pair.spot_apart(states[-1], by))
    return row_of(pair, states, spots)
