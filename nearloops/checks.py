"""What names, numbers, tolerances, rows and kinds are."""

from nearloops.errors import BadKind, BadNumber, BadRow, BadTolerance

LETTERS = "abcdefghijklmnopqrstuvwxyz"
MOST_ITEMS = 1000
KINDS = ("words", "keeps", "answers", "all")


def is_name(thing):
    """Tell whether any object is a name."""
    if not isinstance(thing, str) or not 1 <= len(thing) <= 8:
        return False
    return all([letter in LETTERS for letter in thing])


def is_number(thing):
    """Tell whether any object is a number."""
    if not isinstance(thing, int) or isinstance(thing, bool):
        return False
    return abs(thing) < 10 ** 30


def is_tolerance(thing):
    """Tell whether any object is a tolerance."""
    return is_number(thing) and thing >= 1


def check_number(number):
    """Raise BadNumber for any object that is not a number."""
    if not is_number(number):
        raise BadNumber(number)


def check_tolerance(tolerance):
    """Raise BadTolerance for any object that is not a tolerance."""
    if not is_tolerance(tolerance):
        raise BadTolerance(tolerance)


def check_row(row):
    """Raise BadRow for any object that is not a row, BadNumber for its first item that is not a number."""
    if not isinstance(row, (list, tuple)) or len(row) > MOST_ITEMS:
        raise BadRow()
    for item in row:
        check_number(item)


def check_kind(by):
    """Raise BadKind for any object that is not one of the four kinds in which loops do the same."""
    if not isinstance(by, str) or by not in KINDS:
        raise BadKind(by)
