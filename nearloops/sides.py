"""What two loops can do where d is far from 0, on one side of it.

There it does not matter how large d is. A node is what remains of a joint state
without d: the two states, and a sign or the word of a leap. A climb begins at a
node and lasts as long as d does not come nearer to 0 than at its beginning. Sets
of nodes are masks: the bit of each node in the set is 1.
"""

from nearloops.pairs import FAR
from nearloops.places import SIGNS


def _numbers_in(mask):
    """Return the numbers of the bits that are 1."""
    numbers = []
    while mask > 0:
        least = mask & -mask
        numbers.append(least.bit_length() - 1)
        mask = mask ^ least
    return numbers


def node_of(state):
    """Return what remains of a joint state without d."""
    return (state[0], state[1], state[2][1])


def with_node(node, d):
    """Return the joint state of a node with this d."""
    return (node[0], node[1], (d, node[2]))


class Side:
    """The nodes of one side of two loops, and their climbs, which are found when they are asked for."""

    def __init__(self, moves, direction):
        self.moves = moves
        self.d = direction * FAR
        self.known = []
        self.numbers = {}
        self.steps = {}
        # For each node where climbs begin: the nodes that they come to without a change of d in all,
        # those that they come to when they end, and the nodes where the climbs begin which go on in them.
        self.level_found = {}
        self.ends = {}
        self.begun_in = {}
        self.queue = []

    def mask_of(self, nodes):
        """Return the mask of these nodes."""
        mask = 0
        for node in nodes:
            mask = mask | self._bit(node)
        return mask

    def nodes_in(self, mask):
        """Return the nodes of a mask."""
        return [self.known[number] for number in _numbers_in(mask)]

    def side_states(self, mask):
        """Return the nodes of a mask that are not in the midst of a leap."""
        return [node for node in self.nodes_in(mask) if node[2] in SIGNS]

    def climbed(self, mask):
        """Return the nodes that climbs from these nodes come to without a change of d in all."""
        firsts = _numbers_in(mask)
        for first in firsts:
            self._begin(first)
        while len(self.queue) > 0:
            first, number = self.queue.pop()
            self._follow(first, number)
        found = 0
        for first in firsts:
            found = found | self.level_found[first]
        return found

    def risen(self, mask):
        """Return the nodes to which these lead with a d that is one further from 0."""
        found = 0
        for number in _numbers_in(mask):
            found = found | self._steps_from(number)[2]
        return found

    def _bit(self, node):
        """Return the mask of one node."""
        if node not in self.numbers:
            self.numbers[node] = len(self.known)
            self.known.append(node)
        return 1 << self.numbers[node]

    def _steps_from(self, number):
        """Return masks of the nodes to which one leads with a nearer d, with the same and with one further from 0."""
        if number not in self.steps:
            masks = [0, 0, 0]
            for later, _ in self.moves.moves_from(with_node(self.known[number], self.d)):
                change = abs(later[2][0]) - FAR
                # All others end about 0, on either side.
                if change >= -1:
                    masks[change + 1] = masks[change + 1] | self._bit(node_of(later))
            self.steps[number] = tuple(masks)
        return self.steps[number]

    def _begin(self, first):
        """Take note of a node where climbs begin."""
        if first not in self.level_found:
            self.level_found[first] = 0
            self.ends[first] = 0
            self.begun_in[first] = {}
            self._add(first, 1 << first)

    def _add(self, first, mask):
        """Take note of nodes that climbs come to without a change of d in all."""
        for number in _numbers_in(mask & ~self.level_found[first]):
            self.queue.append((first, number))
        self.level_found[first] = self.level_found[first] | mask

    def _follow(self, first, number):
        """Go on from a node of the climbs that begin at the first one."""
        inner, level, outer = self._steps_from(number)
        self._add(first, level)
        for later in _numbers_in(outer):
            self._begin(later)
            if first not in self.begun_in[later]:
                self.begun_in[later][first] = True
                self._add(first, self.ends[later])
        fresh = inner & ~self.ends[first]
        if fresh > 0:
            self.ends[first] = self.ends[first] | fresh
            for lower in list(self.begun_in[first]):
                self._add(lower, fresh)
