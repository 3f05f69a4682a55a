"""The states in which a loop can be with a kept number, and which of them are alike."""

from nearloops.pairs import Pair
from nearloops.places import PLACES
from nearloops.solo import lone_ways
from nearloops.steps import step


def met(loop):
    """Return the tuple of the met states of a loop."""
    reached = {(state, gap != "none"): True for state, _, gap in lone_ways(Pair(loop, loop))}
    return tuple([state for state in loop.states if (state, True) in reached])


def _parted(loop, classes):
    """Return classes of states that tell, keep and go on alike, given the classes of those behind a number."""
    deeds = {}
    parted = {}
    for state in classes:
        steps = [step(loop, state, place) for place in PLACES]
        later = [(word, keeps, classes[after]) for word, keeps, after in steps]
        parted[state] = deeds.setdefault((classes[state], tuple(later)), len(deeds))
    return parted


def kinds(loop):
    """Return the lists of the met states that are alike."""
    answers = loop.answers
    numbers = {}
    classes = {state: numbers.setdefault(answers[state], len(numbers)) for state in met(loop)}
    # Each turn parts some states, or all turns behind it part none.
    turns = len(classes)
    for _ in range(turns):
        classes = _parted(loop, classes)
    found = {}
    for state, number in classes.items():
        found.setdefault(number, []).append(state)
    return list(found.values())
