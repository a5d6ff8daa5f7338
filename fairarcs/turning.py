"""Turning and joining: strands that are made of other strands."""

from fairarcs.arcs import arc_runs
from fairarcs.strands import exchanged, require_place, require_strand, strand_of, total_beads


def rotated(ring, by):
    """Return the strand of the same ring whose place 0 is this place."""
    require_strand(ring)
    beads = total_beads(ring)
    require_place(by, beads - 1)
    return strand_of(arc_runs(ring, by, beads))


def mirrored(strand):
    """Return the strand with its beads in the opposite order."""
    require_strand(strand)
    return strand[::-1]


def swapped(strand):
    """Return the strand with all colours exchanged."""
    require_strand(strand)
    return tuple(exchanged(strand))


def joined(strand, *more):
    """Return the row of all given rows, one behind another."""
    rows = [strand, *more]
    for row in rows:
        require_strand(row)
    return strand_of([run for row in rows for run in row])


def closed_runs(ring):
    """Return the list of the runs around a ring and the place of the first one.

    A run that goes around over place 0 is one run here, the last one.
    """
    colour, count = ring[0]
    last_colour, last_count = ring[-1]
    if len(ring) > 1 and colour == last_colour:
        return [*ring[1:-1], (colour, last_count + count)], count
    return list(ring), 0


def turn_between(ring, other):
    """Return the least place by which one ring is rotated to another one, or None."""
    require_strand(ring)
    require_strand(other)
    beads = total_beads(ring)
    runs, place = closed_runs(ring)
    other_runs, other_place = closed_runs(other)
    found = []
    for at, (_, count) in enumerate(runs):
        if runs[at:] + runs[:at] == other_runs:
            found.append((place - other_place) % beads)
        place += count
    return min(found, default=None)
