"""Rows of the same shape."""

from nearloops.checks import check_row, check_tolerance


def _cells_and_ranks(row, tolerance):
    """Return the cells of the numbers, the ranks of their rests, and how many different rests there are."""
    cells = [number // tolerance for number in row]
    rests = [number - cell * tolerance for number, cell in zip(row, cells)]
    ranks = {rest: rank for rank, rest in enumerate(sorted(set(rests)))}
    return cells, [ranks[rest] for rest in rests], len(ranks)


def ranked(row, tolerance):
    """Return the ranked row of the same shape and cells, and its tolerance."""
    check_row(row)
    check_tolerance(tolerance)
    cells, ranks, many = _cells_and_ranks(row, tolerance)
    least = max(1, many)
    return [cell * least + rank for cell, rank in zip(cells, ranks)], least


def same_shape(row, tolerance, other, other_tolerance):
    """Tell whether two rows, each with its tolerance, have the same shape."""
    check_row(row)
    check_tolerance(tolerance)
    check_row(other)
    check_tolerance(other_tolerance)
    cells, ranks, _ = _cells_and_ranks(row, tolerance)
    other_cells, other_ranks, _ = _cells_and_ranks(other, other_tolerance)
    if ranks != other_ranks:
        return False
    shifts = [other_cell - cell for cell, other_cell in zip(cells, other_cells)]
    return len(set(shifts)) <= 1
