"""Spreads: how much the numbers of dark beads of arcs of one length differ."""

from fairarcs.arcs import require_dark, require_length
from fairarcs.errors import InvalidNumber
from fairarcs.integers import is_integer
from fairarcs.pieces import extremes, least_start
from fairarcs.strands import require_place, require_strand, total_beads


def run_starts(ring):
    """Return the list of the places at which the runs begin."""
    found = []
    begin = 0
    for _, count in ring:
        found.append(begin)
        begin += count
    return found


def lengths_to_try(ring):
    """Return lengths, in ascending order, among which is the least one with the greatest spread."""
    # That length is 0 or the distance of two places where the colour changes.
    # It is at most half of the ring: the other beads of all arcs of a length
    # are the arcs of another length with the same spread.
    beads = total_beads(ring)
    places = run_starts(ring)
    return sorted({min(high - low, beads - high + low) for low in places for high in places if low <= high})


def widest(ring):
    """Return (spread, length, start, other) of the least length with the greatest spread.

    start and other are the least places of arcs of this length with the
    greatest and the least number of dark beads.
    """
    require_strand(ring)
    best_length = 0
    least = 0
    greatest = 0
    for length in lengths_to_try(ring):
        low, high = extremes(ring, length)
        if high - low > greatest - least:
            best_length = length
            least = low
            greatest = high
    start = least_start(ring, best_length, greatest)
    return greatest - least, best_length, start, least_start(ring, best_length, least)


def is_even(ring):
    """Return whether no spread of a ring is greater than 1."""
    return widest(ring)[0] <= 1


def even_dark(beads, dark, start, length):
    """Return the number of dark beads in an arc of the even ring with floor(i * dark / beads) before each place i."""
    if not is_integer(beads) or beads < 1:
        raise InvalidNumber("the number of beads is not an integer from 1 on")
    require_dark(dark, beads)
    require_place(start, beads - 1)
    require_length(length, beads)
    # The floors go on in the same way in the next turn of the ring, so an arc
    # that goes around over place 0 needs nothing else.
    return (start + length) * dark // beads - start * dark // beads
