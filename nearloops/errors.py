"""The errors of the package."""

# The messages do not show the wrong values: an error may be made with any
# object, also with one that cannot be written out.


class NearError(ValueError):
    """What all errors of the package derive from."""


class BadNumber(NearError):
    """An object is not a number."""

    def __init__(self, number):
        super().__init__("not an integer of at most 30 digits")
        self.number = number


class BadTolerance(NearError):
    """An object is not a tolerance."""

    def __init__(self, tolerance):
        super().__init__("not an integer from 1 on of at most 30 digits")
        self.tolerance = tolerance


class BadRow(NearError):
    """An object is not a list or tuple of at most 1000 items."""

    def __init__(self):
        super().__init__()


class BadGroup(NearError):
    """An object is not the name of a group, or not a place."""

    def __init__(self, group):
        super().__init__("not a group or not a place")
        self.group = group


class BadLoop(NearError):
    """A rule or a line of a loop is wrong."""

    def __init__(self, line):
        super().__init__("a rule or a line of the loop is wrong")
        self.line = line


class UnknownState(NearError):
    """An object is not a state."""

    def __init__(self, state):
        super().__init__("not a state")
        self.state = state


class BadAnswer(NearError):
    """An object is not an answer."""

    def __init__(self, answer):
        super().__init__("neither a name nor the empty string")
        self.answer = answer


class BadJoint(NearError):
    """An object is not a joint state."""

    def __init__(self, state):
        super().__init__("not a joint state")
        self.state = state


class BadTable(NearError):
    """Objects do not make a table."""

    def __init__(self):
        super().__init__()


class BadKind(NearError):
    """An object is not one of the kinds in which loops do the same."""

    def __init__(self, by):
        super().__init__("not words, keeps, answers or all")
        self.by = by


class BadWatch(NearError):
    """A rule of a watch is wrong."""

    def __init__(self, line):
        super().__init__("a rule of the watch is wrong")
        self.line = line
