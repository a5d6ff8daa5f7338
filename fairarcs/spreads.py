"""Spreads: how much the numbers of dark beads of arcs of one length differ."""

from fairarcs.arcs import require_dark, require_length
from fairarcs.integers import require_number
from fairarcs.pieces import least_start
from fairarcs.strands import DARK, require_place, require_strand, total_beads, total_dark


def run_starts(ring):
    """Return the list of (place, dark beads before it) of the places at which the runs begin."""
    found = []
    begin = 0
    dark = 0
    for colour, count in ring:
        found.append((begin, dark))
        begin += count
        if colour == DARK:
            dark += count
    return found


def most_between(ring):
    """Return the most dark beads between two places where runs begin, as a dict of their distances around the ring."""
    beads = total_beads(ring)
    all_dark = total_dark(ring)
    found = {0: 0, beads: all_dark}
    places = run_starts(ring)
    for place, before in places:
        for other, other_before in places:
            turns = int(other < place)
            length = other - place + turns * beads
            found[length] = max(found.get(length, 0), other_before - before + turns * all_dark)
    return found


def most_by_length(ring):
    """Return the greatest number of dark beads in an arc, as a dict of lengths in ascending order.

    The lengths are the distances of two places where runs begin.
    """
    # Some arc with the most dark beads begins or ends where a run does. If its
    # other end is inside of a light run, the arc without these light beads has
    # as many dark beads; if it is inside of a dark run, the arc with this whole
    # run has nothing but dark beads more.
    most = most_between(ring)
    lengths = sorted(most)
    dark = 0
    for length in lengths:
        dark = max(dark, most[length])
        most[length] = dark
    light = total_beads(ring)
    for length in lengths[::-1]:
        light = min(light, length - most[length])
        most[length] = length - light
    return {length: most[length] for length in lengths}


def widest(ring):
    """Return (spread, length, start, other) of the least length with the greatest spread.

    start and other are the least places of arcs of this length with the
    greatest and the least number of dark beads.
    """
    require_strand(ring)
    beads = total_beads(ring)
    all_dark = total_dark(ring)
    most = most_by_length(ring)
    best = 0
    spread = 0
    for length, greatest in most.items():
        # An arc with the fewest dark beads leaves one with the most of them.
        least = all_dark - most[beads - length]
        if greatest - least > spread:
            best = length
            spread = greatest - least
    start = least_start(ring, best, most[best])
    return spread, best, start, least_start(ring, best, most[best] - spread)


def is_even(ring):
    """Return whether no spread of a ring is greater than 1."""
    return widest(ring)[0] <= 1


def even_dark(beads, dark, start, length):
    """Return the number of dark beads in an arc of the even ring with floor(i * dark / beads) before each place i."""
    require_number(beads, 1)
    require_dark(dark, beads)
    require_place(start, beads - 1)
    require_length(length, beads)
    # The floors go on in the same way in the next turn of the ring, so an arc
    # that goes around over place 0 needs nothing else.
    return (start + length) * dark // beads - start * dark // beads
