"""Straight shares: each person gets one arc of the ring."""

from fairarcs.errors import InvalidPersons, NotDivisible
from fairarcs.integers import is_integer, is_integer_within
from fairarcs.pieces import nth_place, stretches_with, total_places
from fairarcs.strands import require_strand, total_beads, total_dark


def require_divisible(runs, persons):
    """Raise NotDivisible if the beads or the dark beads cannot be divided among so many persons."""
    if total_beads(runs) % persons != 0 or total_dark(runs) % persons != 0:
        raise NotDivisible(0)


def changes_around(stretches, length):
    """Return how often places of some stretches meet each place below length, around a ring of this length.

    The dict has the place where the number changes, in any order, and by how
    much it changes there; before place 0 it is 0.
    """
    found = {}
    for first, count in stretches:
        begin = first % length
        end = begin + count % length
        around = max(0, end - length)
        for low, high, many in [(0, length, count // length), (begin, end - around, 1), (0, around, 1)]:
            found[low] = found.get(low, 0) + many
            found[high] = found.get(high, 0) - many
    return found


def met_by_all(stretches, length, persons):
    """Return the places below length that are met so many times, as stretches."""
    found = []
    met = 0
    changes = changes_around(stretches, length)
    places = sorted(changes)
    for first, end in zip(places, places[1:]):
        met += changes[first]
        if met == persons:
            found.append((first, end - first))
    return found


def straight_stretches(ring, persons):
    """Return the places of all straight shares as stretches."""
    length = total_beads(ring) // persons
    fair = stretches_with(ring, length, total_dark(ring) // persons)
    # The persons may be far more than the runs, so it is not tried for each
    # one whether its arc is fair: the fair arcs are counted.
    return met_by_all(fair, length, persons)


def asked_shares(ring, persons):
    """Return the places of all straight shares as stretches, or raise the error of the first wrong argument."""
    require_strand(ring)
    if not is_integer(persons) or persons < 1:
        raise InvalidPersons("the number of persons is not an integer from 1 on")
    require_divisible(ring, persons)
    return straight_stretches(ring, persons)


def count_straight(ring, persons):
    """Return the number of places below the length of an arc from which straight shares begin."""
    return total_places(asked_shares(ring, persons))


def nth_straight(ring, persons, index):
    """Return the place with this index, from 0, of those that count_straight counts."""
    return nth_place(asked_shares(ring, persons), index)


def fewest_cuts(ring, persons):
    """Return the least number of cuts with which one to three persons can share a ring equally."""
    require_strand(ring)
    if not is_integer_within(persons, 1, 3):
        raise InvalidPersons("the number of persons is not an integer from 1 to 3")
    require_divisible(ring, persons)
    if persons == 1:
        return 0
    if persons == 3 and len(straight_stretches(ring, persons)) == 0:
        return 4
    return persons
