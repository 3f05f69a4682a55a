"""Whether the answer of a loop depends on the order of the row, or on repetitions."""

from nearloops.twists import Twist


def order(loop):
    """Return a shortest row, a tolerance and an index, None if the answer does not depend on the order.

    The loop has another answer when the numbers at the index and behind it are exchanged.
    """
    return Twist(loop, ((0, 1), (1, 0)), 2).parting()


def repeats(loop):
    """Return a shortest row, a tolerance and an index, None if the answer does not depend on repetitions.

    The loop has another answer when the number at the index stands twice.
    """
    return Twist(loop, ((0,), (0, 0)), 1).parting()
