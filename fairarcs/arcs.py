"""Arcs: neighbouring beads of a ring, from a start on around it."""

from fairarcs.errors import InvalidDark, InvalidLength
from fairarcs.integers import is_integer_within
from fairarcs.strands import require_place, require_strand, runs_between, total_beads, total_dark


def require_length(value, beads):
    """Raise InvalidLength if a value is not an integer from 0 to beads."""
    if not is_integer_within(value, 0, beads):
        raise InvalidLength("the length is not an integer from 0 to the number of beads")


def require_dark(value, greatest):
    """Raise InvalidDark if a value is not an integer from 0 to greatest."""
    if not is_integer_within(value, 0, greatest):
        raise InvalidDark("the number of dark beads is not an integer from 0 to the greatest possible one")


def require_arc(ring, start, length):
    """Raise the error of the first argument that is wrong."""
    require_strand(ring)
    beads = total_beads(ring)
    require_place(start, beads - 1)
    require_length(length, beads)


def arc_runs(ring, start, length):
    """Return the list of the runs of an arc."""
    # An arc may go around over place 0, but in two turns of the ring,
    # one behind the other, it lies in one piece.
    return runs_between(ring + ring, start, start + length)


def dark_in(ring, start, length):
    """Return the number of dark beads of an arc."""
    require_arc(ring, start, length)
    return total_dark(arc_runs(ring, start, length))


def other_arc(ring, start, length):
    """Return the arc (start, length) of all beads outside of an arc."""
    require_arc(ring, start, length)
    beads = total_beads(ring)
    return (start + length) % beads, beads - length


def beads_of(ring, start, length):
    """Generate the colours of the beads of an arc in their order."""
    require_arc(ring, start, length)
    for colour, count in arc_runs(ring, start, length):
        for _ in range(count):
            yield colour
