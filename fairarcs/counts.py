"""Counts: the places of the arcs with a given length and number of dark beads."""

from fairarcs.arcs import require_length
from fairarcs.errors import InvalidDark
from fairarcs.integers import is_integer
from fairarcs.pieces import nth_place, stretches_with, total_places
from fairarcs.strands import require_strand, total_beads


def asked_stretches(ring, length, dark):
    """Return the places of all such arcs as stretches, or raise the error of the first wrong argument."""
    require_strand(ring)
    require_length(length, total_beads(ring))
    if not is_integer(dark) or dark < 0:
        raise InvalidDark("the number of dark beads is not an integer from 0 on")
    return stretches_with(ring, length, dark)


def count_arcs(ring, length, dark):
    """Return the number of places from which an arc of a length has so many dark beads."""
    return total_places(asked_stretches(ring, length, dark))


def nth_arc(ring, length, dark, index):
    """Return the place with this index, from 0, of those that count_arcs counts."""
    return nth_place(asked_stretches(ring, length, dark), index)


def starts(ring, length, dark):
    """Generate the places that count_arcs counts in ascending order."""
    for first, count in asked_stretches(ring, length, dark):
        for place in range(first, first + count):
            yield place
