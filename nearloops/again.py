"""Whether a loop picks all numbers again when it is run on those that it has picked."""

from nearloops.pairs import FAR, Pair
from nearloops.search import Search
from nearloops.witness import row_of, spots_between


class Echo(Pair):
    """A loop, and the same loop that reads only the numbers which the first one picks."""

    def __init__(self, loop, words):
        super().__init__(loop, loop)
        self.picked = {word: True for word in words}

    def other_step(self, state, found, word):
        """Return what the second loop does with a number for which the first one tells the word."""
        if word in self.picked:
            return self.other_steps[(state, found)]
        return word, False, state

    def spot_lost(self, state):
        """Return a spot of a number that only the first loop picks, None if there is none."""
        return self.spot_where(state, lambda one, other: one[0] in self.picked and other[0] not in self.picked)


def again(loop, words):
    """Return a shortest row, with a tolerance, of whose picked numbers not all are picked again, None if none is."""
    echo = Echo(loop, words)
    search = Search(echo, FAR, lambda state: None if echo.spot_lost(state) is None else 1, [(echo.begin, 0)])
    states = search.shortest()
    if states is None:
        return None
    return row_of(echo, states, [*spots_between(echo, states), echo.spot_lost(states[-1])])
