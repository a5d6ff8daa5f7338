"""Ranges: how many dark beads arcs of a length have, and the other way round."""

from fairarcs.arcs import require_dark, require_length
from fairarcs.pieces import extremes
from fairarcs.strands import require_strand, total_beads, total_dark


def least_length(ring, dark):
    """Return the least length of an arc with so many dark beads."""
    # The greatest number of dark beads grows with the length, by at most one
    # for each bead: where it first reaches dark, it is dark.
    low = 0
    high = total_beads(ring)
    while low < high:
        middle = (low + high) // 2
        _, greatest = extremes(ring, middle)
        if greatest < dark:
            low = middle + 1
        else:
            high = middle
    return low


def dark_range(ring, length):
    """Return the least and the greatest number of dark beads in an arc of a length."""
    require_strand(ring)
    require_length(length, total_beads(ring))
    return extremes(ring, length)


def length_range(ring, dark):
    """Return the least and the greatest length of an arc with so many dark beads."""
    require_strand(ring)
    all_dark = total_dark(ring)
    require_dark(dark, all_dark)
    # A longest arc leaves a shortest one with all the other dark beads.
    return least_length(ring, dark), total_beads(ring) - least_length(ring, all_dark - dark)
