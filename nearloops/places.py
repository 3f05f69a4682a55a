"""Places of numbers at kept numbers, and groups of places."""

from nearloops.checks import check_number, check_tolerance
from nearloops.errors import BadGroup

PLACES = ("below", "-<", "-=", "->", "<", "=", ">", "+<", "+=", "+>", "above")
SIGNS = ("<", "=", ">")

# The groups that are not called as a single place.
GROUPS = {
    "any": ("below", "-<", "-=", "->", "<", "=", ">", "+<", "+=", "+>", "above"),
    "near": ("-=", "->", "<", "=", ">", "+<", "+="),
    "far": ("below", "-<", "+>", "above"),
    "less": ("below", "-<", "-=", "->", "<"),
    "more": (">", "+<", "+=", "+>", "above"),
    "under": ("below", "-<"),
    "over": ("+>", "above"),
    "cell": ("<", "=", ">"),
    "none": (),
}


def is_place(thing):
    """Tell whether any object is a place."""
    return isinstance(thing, str) and thing in PLACES


def is_group(thing):
    """Tell whether any object is the name of a group."""
    return isinstance(thing, str) and (thing in PLACES or thing in GROUPS)


def are_groups(things):
    """Tell whether any object is a list or tuple of one or more names of groups."""
    if not isinstance(things, (list, tuple)) or len(things) == 0:
        return False
    return all([is_group(thing) for thing in things])


def sign_of(rest, other):
    """Return whether a rest is less than, equal to or greater than another one, as a sign."""
    if rest < other:
        return "<"
    if rest > other:
        return ">"
    return "="


def place_at(step, sign):
    """Return the place of a number with so many cells more than the kept one and this sign of its rest."""
    if step <= -2:
        return "below"
    if step >= 2:
        return "above"
    if step == -1:
        return "-" + sign
    if step == 1:
        return "+" + sign
    return sign


def place(x, kept, tolerance):
    """Return the place of the number x at the number kept."""
    check_number(x)
    check_number(kept)
    check_tolerance(tolerance)
    cell, rest = divmod(x, tolerance)
    kept_cell, kept_rest = divmod(kept, tolerance)
    return place_at(cell - kept_cell, sign_of(rest, kept_rest))


def group(name):
    """Return the tuple of the places of a group, in ascending order."""
    if not is_group(name):
        raise BadGroup(name)
    if is_place(name):
        return (name,)
    return GROUPS[name]


def turned(place):
    """Return the place of k at x, given the place of x at k."""
    if not is_place(place):
        raise BadGroup(place)
    # To exchange x and k is to read the eleven places from the other end.
    return PLACES[10 - PLACES.index(place)]
