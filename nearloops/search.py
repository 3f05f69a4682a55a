"""The search for a shortest sequence of joint states.

Up to a height, that is for each d from -height to height, the search looks at the
joint states themselves. Above it they do not depend on how large d is, so there it
looks at climbs: a climb begins with a joint state whose d is one further from 0 than
the one before, and lasts as long as d does not come nearer to 0 than there. What is
found of a climb holds wherever it begins. Where it ends, d is again what it was
before the climb: so there is a bridge between two joint states with the same d, and
all other climbs can go over it, too. There are finitely many climbs and bridges,
but the joint states in them can have any d.
"""

from heapq import heappop, heappush

from nearloops.moves import Moves, is_whole, with_d
from nearloops.pairs import FAR

# The search goes through items, pairs of the number of a climb and a joint state.
# GROUND stands for no climb: d is at most the height. In a climb all joint states
# have the same d, just above the height, in the place of their true one.
GROUND = 0

# How an item is come to: by a move, or as the first one of a climb. If it is come to
# over a bridge, the number of the last item in the climb of this bridge tells so.
MOVED = -1
CLIMBED = -2
NOWHERE = -1


class Climb:
    """What is known of the climbs that begin with one joint state.

    The feet are the joint states behind which it begins, each with the cost of the
    move; the ends are those behind it, each with the cost from the first joint
    state to there and the last item.
    """

    def __init__(self, first):
        self.first = first
        self.feet = {}
        self.ends = {}


class Search:
    """A search for a shortest sequence of joint states to a goal.

    It begins with any of the starts, pairs of a joint state with a d of at most the
    height and of how many numbers it has cost. The goal is a function of a joint state:
    it returns how many more numbers are needed there, or None if they do not reach it.
    """

    def __init__(self, pair, height, goal, starts):
        self.moves = Moves(pair)
        self.goal = goal
        self.known_goals = {}
        self.height = max(height, FAR)
        self.visited = []
        self.numbers = {}
        self.costs = []
        self.origins = []
        self.done = []
        self.queue = []
        self.climbs = [None]
        self.climbs_from = {}
        self.visits = {}
        self.bridges = {}
        for state, cost in starts:
            self._offer(GROUND, state, cost, (NOWHERE, MOVED))

    def shortest(self):
        """Return the joint states to the goal, the first one included, None if it is not reached."""
        while len(self.queue) > 0:
            _, number = heappop(self.queue)
            if self.done[number]:
                continue
            self.done[number] = True
            state = self.visited[number][1]
            # The item without a joint state stands for what lies behind the goal.
            if state is None:
                return self._way_to(self.origins[number][0])
            more = self._more(state)
            if more is not None:
                self._offer(GROUND, None, self.costs[number] + more, (number, MOVED))
            self._follow(number)
        return None

    def _more(self, state):
        """Return how many more numbers the goal needs, which is found only once for all climbs."""
        if state not in self.known_goals:
            self.known_goals[state] = self.goal(state) if is_whole(state) else None
        return self.known_goals[state]

    def _offer(self, climb, state, cost, origin):
        """Take note of how an item is come to, unless no less costly way there is known."""
        item = (climb, state)
        number = self.numbers.get(item)
        if number is None:
            number = len(self.visited)
            self.numbers[item] = number
            self.visited.append(item)
            self.costs.append(cost)
            self.origins.append(origin)
            self.done.append(False)
        elif cost < self.costs[number]:
            self.costs[number] = cost
            self.origins[number] = origin
        else:
            return
        heappush(self.queue, (cost, number))

    def _foot(self, state):
        """Return the joint state as climbs have it, None if no climb begins behind it."""
        gap = state[2]
        if isinstance(gap, str) or abs(gap[0]) < self.height:
            return None
        top = self.height + 2
        return with_d(state, top if gap[0] > 0 else -top)

    def _follow(self, number):
        """Offer all items to which an item leads."""
        state = self.visited[number][1]
        foot = self._foot(state)
        if foot is not None:
            self.visits.setdefault(foot, []).append(number)
            for end, (length, last) in self.bridges.get(foot, {}).items():
                self._cross(number, end, length, last)
        for later, cost in self.moves.moves_from(state):
            self._move(number, foot, later, cost)

    def _move(self, number, foot, later, cost):
        """Offer the item to which a move leads."""
        climb = self.visited[number][0]
        gap = later[2]
        if isinstance(gap, str) or abs(gap[0]) <= self.height:
            self._offer(GROUND, later, self.costs[number] + cost, (number, MOVED))
            return
        raised = with_d(later, foot[2][0])
        if climb == GROUND or abs(gap[0]) > abs(foot[2][0]):
            self._begin(number, foot, raised, cost)
        elif gap[0] == foot[2][0]:
            self._offer(climb, raised, self.costs[number] + cost, (number, MOVED))
        else:
            self._end(number, raised, cost)

    def _begin(self, number, foot, first, cost):
        """Begin a climb behind an item."""
        if first not in self.climbs_from:
            self.climbs_from[first] = len(self.climbs)
            self.climbs.append(Climb(first))
        at = self.climbs_from[first]
        self._offer(at, first, self.costs[number] + cost, (number, CLIMBED))
        climb = self.climbs[at]
        if foot not in climb.feet:
            climb.feet[foot] = cost
            for end, (length, last) in climb.ends.items():
                self._bridge(foot, end, cost + length, last)

    def _end(self, last, end, cost):
        """Take note of an end of a climb behind its last item."""
        at = self.visited[last][0]
        climb = self.climbs[at]
        length = self.costs[last] + cost - self.costs[self.numbers[(at, climb.first)]]
        if end in climb.ends and climb.ends[end][0] <= length:
            return
        climb.ends[end] = (length, last)
        for foot, up in climb.feet.items():
            self._bridge(foot, end, up + length, last)

    def _bridge(self, foot, end, length, last):
        """Take note of a bridge, and go over it from everywhere."""
        bridges = self.bridges.setdefault(foot, {})
        if end in bridges and bridges[end][0] <= length:
            return
        bridges[end] = (length, last)
        for number in self.visits.get(foot, []):
            self._cross(number, end, length, last)

    def _cross(self, number, end, length, last):
        """Offer the item at the end of a bridge."""
        climb, state = self.visited[number]
        later = with_d(end, state[2][0]) if climb == GROUND else end
        self._offer(climb, later, self.costs[number] + length, (number, last))

    def _way_to(self, number):
        """Return the joint states on the way to an item."""
        steps = []
        feet = []
        while number != NOWHERE:
            climb, state = self.visited[number]
            before, how = self.origins[number]
            if how == MOVED:
                steps.append((climb, state, 0))
                number = before
            elif how == CLIMBED:
                steps.append((climb, state, 1))
                # If a bridge led here, then its climb was begun where the bridge begins.
                number = feet.pop() if len(feet) > 0 else before
            else:
                steps.append((climb, state, -1))
                feet.append(before)
                number = how
        return _with_true_d(steps[::-1])


def _with_true_d(steps):
    """Return the joint states of triples of a climb, a joint state, and how much further from 0 it is."""
    states = []
    distance = 0
    for climb, state, change in steps:
        if not isinstance(state[2], str):
            distance = abs(state[2][0]) if climb == GROUND else distance + change
            state = with_d(state, distance if state[2][0] > 0 else -distance)
        if is_whole(state):
            states.append(state)
    return states
