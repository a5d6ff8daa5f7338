"""Strands: rows and rings of dark and light beads, written as runs."""

from fairarcs.errors import InvalidIndex, InvalidPlace, InvalidStrand
from fairarcs.integers import is_integer, is_integer_within

DARK = "D"
LIGHT = "L"


def is_run(value):
    """Return whether any value is a run: a tuple (colour, count)."""
    if not isinstance(value, tuple) or len(value) != 2:
        return False
    colour, count = value
    if not isinstance(colour, str) or colour not in (DARK, LIGHT):
        return False
    return is_integer(count) and count >= 1


def is_strand(value):
    """Return whether any value is a strand."""
    if not isinstance(value, tuple) or len(value) == 0:
        return False
    last_colour = None
    for run in value:
        if not is_run(run) or run[0] == last_colour:
            return False
        last_colour = run[0]
    return True


def require_strand(value):
    """Raise InvalidStrand if a value is not a strand."""
    if not is_strand(value):
        raise InvalidStrand("a strand is a tuple of runs (colour, count), neighbours of different colours")


def require_place(value, last):
    """Raise InvalidPlace if a value is not an integer from 0 to last."""
    if not is_integer_within(value, 0, last):
        raise InvalidPlace("the place is not an integer from 0 to the last possible place")


def total_beads(runs):
    """Return the number of beads of some runs."""
    return sum([count for _, count in runs])


def total_dark(runs):
    """Return the number of dark beads of some runs."""
    return sum([count for colour, count in runs if colour == DARK])


def cut_between(rows, start, end):
    """Return what lies at the places start to end - 1 of some rows (label, count), one behind the other.

    It is a list of (label, offset, count): of the row with this label so many
    places, from the one with the index offset in this row on.
    """
    found = []
    begin = 0
    for label, count in rows:
        low = max(start, begin)
        high = min(end, begin + count)
        if low < high:
            found.append((label, low - begin, high - low))
        begin += count
    return found


def runs_between(runs, start, end):
    """Return the list of the runs of the beads start to end - 1."""
    return [(colour, count) for colour, _, count in cut_between(runs, start, end)]


def strand_of(runs):
    """Return the strand of the beads of some runs; counts may be 0, and neighbours may have the same colour."""
    found = []
    for colour, count in runs:
        if count > 0 and len(found) > 0 and found[-1][0] == colour:
            found[-1] = (colour, found[-1][1] + count)
        elif count > 0:
            found.append((colour, count))
    return tuple(found)


def exchanged(runs):
    """Return the list of some runs with all colours exchanged."""
    return [(LIGHT if colour == DARK else DARK, count) for colour, count in runs]


def count_beads(strand):
    """Return the number of beads."""
    require_strand(strand)
    return total_beads(strand)


def count_dark(strand):
    """Return the number of dark beads."""
    require_strand(strand)
    return total_dark(strand)


def colour_at(strand, place):
    """Return the colour of the bead at a place."""
    require_strand(strand)
    require_place(place, total_beads(strand) - 1)
    colour, _ = runs_between(strand, place, place + 1)[0]
    return colour


def dark_before(strand, place):
    """Return the number of dark beads at the places before this one."""
    require_strand(strand)
    require_place(place, total_beads(strand))
    return total_dark(runs_between(strand, 0, place))


def dark_place(strand, index):
    """Return the place of the dark bead with this index, from 0."""
    require_strand(strand)
    if not is_integer_within(index, 0, total_dark(strand) - 1):
        raise InvalidIndex("the index is not that of a dark bead")
    dark = 0
    light = 0
    for colour, count in strand:
        if colour == LIGHT:
            light += count
        elif dark + count > index:
            break
        else:
            dark += count
    return light + index
