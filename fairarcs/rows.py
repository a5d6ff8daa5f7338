"""Rows: neighbouring beads that are half of a row."""

from fairarcs.pieces import nth_place, stretches_with, total_places
from fairarcs.straight import require_divisible
from fairarcs.strands import require_strand, runs_between, total_beads, total_dark


def require_halves(row):
    """Raise the error of a row that is none or that has no halves."""
    require_strand(row)
    require_divisible(row, 2)


def asked_halves(row):
    """Return the places of all fair halves as stretches, or raise the error of the argument."""
    require_halves(row)
    half = total_beads(row) // 2
    fair = stretches_with(row, half, total_dark(row) // 2)
    # Behind the place half an arc of this length would go around over place 0.
    return [(first, min(count, half + 1 - first)) for first, count in fair if first <= half]


def count_halvings(row):
    """Return the number of places from which on half of the beads have half of the dark beads."""
    return total_places(asked_halves(row))


def nth_halving(row, index):
    """Return the place with this index, from 0, of those that count_halvings counts."""
    return nth_place(asked_halves(row), index)


def fewest_row_cuts(row):
    """Return the least number of cuts with which two persons can share a row equally."""
    require_halves(row)
    first_half = runs_between(row, 0, total_beads(row) // 2)
    if total_dark(first_half) * 2 == total_dark(row):
        return 1
    return 2
