"""What one loop alone reaches.

The loop runs beside itself, so that both are always in the same state and have the
same kept number, or none.
"""

from nearloops.pairs import near_cells, outer_cells, spots_in


def lone_ways(pair):
    """Return a dict from each joint state that a loop reaches beside itself to a shortest sequence of them to there."""
    ways = {pair.begin: [pair.begin]}
    queue = [pair.begin]
    at = 0
    while at < len(queue):
        state = queue[at]
        at += 1
        for spot in spots_in(state[2], near_cells(state[2]) + outer_cells(state[2])):
            later = pair.later(state, spot)
            if later not in ways:
                ways[later] = [*ways[state], later]
                queue.append(later)
    return ways
