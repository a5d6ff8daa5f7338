"""Counts: the places of the arcs with a given length and number of dark beads."""

from fairarcs.arcs import require_length
from fairarcs.errors import InvalidDark, InvalidIndex
from fairarcs.integers import is_integer, is_integer_within
from fairarcs.pieces import stretches_with
from fairarcs.strands import cut_between, require_strand, total_beads


def asked_stretches(ring, length, dark):
    """Return the places of all such arcs as stretches, or raise the error of the first wrong argument."""
    require_strand(ring)
    require_length(length, total_beads(ring))
    if not is_integer(dark) or dark < 0:
        raise InvalidDark("the number of dark beads is not an integer from 0 on")
    return stretches_with(ring, length, dark)


def total_places(stretches):
    """Return the number of places of some stretches."""
    return sum([count for _, count in stretches])


def count_arcs(ring, length, dark):
    """Return the number of places from which an arc of a length has so many dark beads."""
    return total_places(asked_stretches(ring, length, dark))


def nth_arc(ring, length, dark, index):
    """Return the place with this index, from 0, of those that count_arcs counts."""
    stretches = asked_stretches(ring, length, dark)
    if not is_integer_within(index, 0, total_places(stretches) - 1):
        raise InvalidIndex("the index is not that of an arc with these numbers")
    first, offset, _ = cut_between(stretches, index, index + 1)[0]
    return first + offset


def starts(ring, length, dark):
    """Generate the places that count_arcs counts in ascending order."""
    for first, count in asked_stretches(ring, length, dark):
        for place in range(first, first + count):
            yield place
