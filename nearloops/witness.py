"""Rows on which two loops go through given joint states."""


def _known_rest(kept, spot):
    """Return the rest of the kept number at which the rest of the number is equal, None if there is none."""
    for number, sign in zip(kept, spot[1:]):
        if number is not None and sign == "=":
            return number[1]
    return None


def _new_rest(kept, spot, rests):
    """Put a new rest into the ascending list of the rests, and return it."""
    at = 0
    for number, sign in zip(kept, spot[1:]):
        if number is not None and sign == ">":
            at = max(at, rests.index(number[1]) + 1)
    rest = len(rests)
    rests.insert(at, rest)
    return rest


def _cell(kept, spot):
    """Return the cell of a number at a spot."""
    for number in kept:
        if number is not None:
            return number[0] + spot[0]
    return spot[0]


def row_of(pair, states, spots):
    """Return a row and a tolerance: its numbers are at these spots, from these joint states."""
    kept = [None, None]
    # A rest is a word for what a number leaves: only the order in the list tells how large it is.
    rests = []
    numbers = []
    for state, spot in zip(states, spots):
        rest = _known_rest(kept, spot)
        if rest is None:
            rest = _new_rest(kept, spot, rests)
        number = (_cell(kept, spot), rest)
        numbers.append(number)
        for index, step in enumerate(pair.told(state, spot)):
            if step[1]:
                kept[index] = number
    tolerance = max(1, len(rests))
    ranks = {rest: rank for rank, rest in enumerate(rests)}
    return [cell * tolerance + ranks[rest] for cell, rest in numbers], tolerance


def spots_between(pair, states):
    """Return the spots of numbers that lead from each joint state to the next one."""
    return [pair.spot_to(state, later) for state, later in zip(states, states[1:])]
