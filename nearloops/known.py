"""The four loops that are part of the package."""

from nearloops.loops import Loop

LEADER = "seek none far: new keep -> seek"
CHAIN = "seek none far: new keep -> seek\nseek near: join keep -> seek"
CELLS = "seek cell: pass pass -> seek\nseek none any: new keep -> seek"
PEAK = """seek none: new keep -> seek
seek more: rise keep -> seek
seek under: fall pass -> fell
fell more: rise keep -> fell
fell under: fall pass -> fell
answer fell fell"""


def leader():
    """Return the loop that keeps each number that is far from the kept one."""
    return Loop.parse(LEADER)


def chain():
    """Return the loop that keeps each number, and says whether it is far from the one before."""
    return Loop.parse(CHAIN)


def cells():
    """Return the loop that keeps each number whose cell is not that of the kept one."""
    return Loop.parse(CELLS)


def peak():
    """Return the loop that keeps the greatest number, and has an answer once a number fell far below it."""
    return Loop.parse(PEAK)
