"""Pieces: the numbers of dark beads of all arcs of one length.

While an arc moves around a ring, its number of dark beads changes in the same
way as long as the bead that it leaves and the bead that it meets keep their
colours. So the places of the ring fall into few pieces (start, count, dark,
step): for k from 0 to count - 1, the arc from the place start + k on has
dark + k * step dark beads. The runs of the ring need not be a strand here:
neighbouring runs may have the same colour.
"""

from fairarcs.arcs import arc_runs
from fairarcs.errors import InvalidIndex
from fairarcs.integers import is_integer_within
from fairarcs.strands import DARK, cut_between, total_beads, total_dark


def side_by_side(runs, others):
    """Return the list of (colour, other colour, count) of two rows with as many beads as each other."""
    found = []
    at = 0
    used = 0
    for colour, count in runs:
        left = count
        while left > 0:
            other, others_count = others[at]
            many = min(left, others_count - used)
            found.append((colour, other, many))
            left -= many
            used += many
            if used == others_count:
                at += 1
                used = 0
    return found


def pieces_of(runs, length):
    """Return the list of the pieces of a ring for the arcs of a length, in ascending order."""
    found = []
    start = 0
    dark = total_dark(arc_runs(runs, 0, length))
    ahead = arc_runs(runs, length, total_beads(runs))
    for leaving, meeting, count in side_by_side(runs, ahead):
        step = int(meeting == DARK) - int(leaving == DARK)
        found.append((start, count, dark, step))
        start += count
        dark += count * step
    return found


def extremes(runs, length):
    """Return the least and the greatest number of dark beads in an arc of a length."""
    # Behind its last place a piece goes on to the number with which the next
    # one begins, so no number lies beyond those of the first places.
    firsts = [dark for _, _, dark, _ in pieces_of(runs, length)]
    return min(firsts), max(firsts)


def stretches_with(runs, length, dark):
    """Return the places of all arcs with these numbers, as an ascending list of (first place, count)."""
    found = []
    for start, count, first, step in pieces_of(runs, length):
        if step == 0 and first == dark:
            found.append((start, count))
        elif step != 0 and 0 <= (dark - first) * step < count:
            found.append((start + (dark - first) * step, 1))
    return found


def least_start(runs, length, dark):
    """Return the least place of an arc with these numbers; there must be one."""
    first, _ = stretches_with(runs, length, dark)[0]
    return first


def total_places(stretches):
    """Return the number of places of some stretches."""
    return sum([count for _, count in stretches])


def nth_place(stretches, index):
    """Return the place with this index, from 0, among those of ascending stretches."""
    if not is_integer_within(index, 0, total_places(stretches) - 1):
        raise InvalidIndex("the index is not that of a possible place")
    first, offset, _ = cut_between(stretches, index, index + 1)[0]
    return first + offset
