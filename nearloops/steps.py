"""What a loop does with one number."""


def step(loop, state, place):
    """Return the word for a number with this place, whether it is kept, and the next state."""
    index = loop.fitting(state, place)
    if index is None:
        return "pass", False, state
    return loop.rules[index][2:]
