"""Rows on which two loops go through given joint states."""


class Draft:
    """A row that is being written.

    Its numbers are pairs of a cell and a rest. A rest is a word for what a number
    leaves: only its place in the ascending list of the rests tells how large it is.
    """

    def __init__(self):
        self.rests = []
        self.numbers = []

    def new_rest(self, at):
        """Put a new rest into the list of the rests, and return it."""
        rest = len(self.rests)
        self.rests.insert(at, rest)
        return rest

    def follow(self, pair, states, spots, kept):
        """Write the numbers at these spots, from these joint states; return the kept numbers behind them."""
        one, other = kept
        for state, spot in zip(states, spots):
            number = self._number_at(spot, (one, other))
            self.numbers.append(number)
            deed, other_deed = pair.told(state, spot)
            one = number if deed[1] else one
            other = number if other_deed[1] else other
        return one, other

    def rank_count(self):
        """Return the tolerance with which the row is ranked."""
        return max(1, len(self.rests))

    def whole(self, number):
        """Return a pair of a cell and a rest as an integer."""
        return number[0] * self.rank_count() + self.rests.index(number[1])

    def row(self):
        """Return the row."""
        ranks = {rest: rank for rank, rest in enumerate(self.rests)}
        return [cell * self.rank_count() + ranks[rest] for cell, rest in self.numbers]

    def _number_at(self, spot, kept):
        """Return a number at a spot, with a new rest if the spot has none of the kept numbers."""
        marks = [(number, sign) for number, sign in zip(kept, spot[1:]) if number is not None]
        cell = spot[0] + (marks[0][0][0] if len(marks) > 0 else 0)
        at = 0
        for number, sign in marks:
            if sign == "=":
                return (cell, number[1])
            if sign == ">":
                at = max(at, self.rests.index(number[1]) + 1)
        return (cell, self.new_rest(at))


def spots_between(pair, states):
    """Return the spots of numbers that lead from each joint state to the next one."""
    return [pair.spot_to(state, later) for state, later in zip(states, states[1:])]


def row_of(pair, states, spots):
    """Return a row and a tolerance: its numbers are at these spots, from these joint states."""
    draft = Draft()
    draft.follow(pair, states, spots, (None, None))
    return draft.row(), draft.rank_count()
