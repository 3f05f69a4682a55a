"""Runs of a loop on a row."""

from nearloops.checks import check_row, check_tolerance
from nearloops.places import place
from nearloops.steps import step


class Run:
    """What a loop tells and keeps on a row."""

    def __init__(self, words, keeps, kept, state, answer):
        self.words = tuple(words)
        self.keeps = tuple(keeps)
        self.kept = tuple(kept)
        self.last = self.kept[-1] if len(self.kept) > 0 else None
        self.state = state
        self.answer = answer

    def __len__(self):
        return len(self.words)

    def __eq__(self, other):
        if not isinstance(other, Run):
            return False
        if self.words != other.words or self.keeps != other.keeps or self.kept != other.kept:
            return False
        return self.last == other.last and self.state == other.state and self.answer == other.answer


def _place(number, kept, tolerance):
    """Return the place of a number, "none" if no number is kept."""
    if len(kept) == 0:
        return "none"
    return place(number, kept[-1], tolerance)


def run(loop, row, tolerance):
    """Return the run of the loop on the row."""
    check_row(row)
    check_tolerance(tolerance)
    words = []
    keeps = []
    kept = []
    state = loop.start
    for number in row:
        word, is_kept, state = step(loop, state, _place(number, kept, tolerance))
        words.append(word)
        keeps.append(is_kept)
        if is_kept:
            kept.append(number)
    return Run(words, keeps, kept, state, loop.answers[state])
