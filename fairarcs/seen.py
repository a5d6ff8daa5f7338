"""Seen stretches: what some numbers of dark beads tell about a hidden row.

A *bound* (place, other, most, step) says that a row has at most so many more
dark beads before the other place than before this one (perhaps a negative
number). step is (index, forward) if a sight says so, and None if this holds
for every row. Bounds one behind another add up, and a row fits if it keeps all
of them. So the most dark beads that can lie between two places are the least
sum of a way of bounds, and there is no such row if a closed way has a
negative sum.
"""

from fairarcs.errors import Contradiction, InvalidSight, InvalidSights, InvalidStretch
from fairarcs.integers import is_integer, is_integer_within, require_number
from fairarcs.strands import DARK, LIGHT, exchanged, strand_of


def is_sight(value):
    """Return whether any value is a sight of a row that has beads enough."""
    if not isinstance(value, tuple) or len(value) != 3:
        return False
    if not all([is_integer(number) for number in value]):
        return False
    start, end, dark = value
    return 0 <= start < end and dark >= 0


def is_sight_of(value, beads):
    """Return whether any value is a sight of a row with so many beads."""
    return is_sight(value) and value[1] <= beads


def require_sights(beads, sights):
    """Raise the error of the first argument that is wrong."""
    require_number(beads, 1)
    if not isinstance(sights, list) or not all([is_sight_of(sight, beads) for sight in sights]):
        raise InvalidSights("the sights are not a list of tuples (start, end, dark) for so many beads")


def bounds_of(beads, sights, more):
    """Return the list of the bounds between the ends of the row, those of the sights and more places."""
    ends = [0, beads] + more
    found = []
    for index, (start, end, dark) in enumerate(sights):
        ends.extend([start, end])
        found.append((start, end, dark, (index, True)))
        found.append((end, start, -dark, (index, False)))
    places = sorted(set(ends))
    for low, high in zip(places, places[1:]):
        found.append((low, high, high - low, None))
        found.append((high, low, 0, None))
    return found


def first_sums(bounds, source):
    """Return for each place the sum of the straight way from the source, which needs no sight."""
    return {place: max(0, place - source) for place, _, _, _ in bounds}


def lower_sums(bounds, sums, before):
    """Lower the sums by each bound once; return the last place whose sum became less, or None.

    before gets, for each such place, the place and the step that lead to it.
    """
    lowered = None
    for place, other, most, step in bounds:
        if sums[place] + most < sums[other]:
            sums[other] = sums[place] + most
            before[other] = (place, step)
            lowered = other
    return lowered


def closed_way(before, place):
    """Return the list of the steps of sights along a closed way that leads to a place."""
    # The way may come out of a circle: so many steps back, it is in there.
    for _ in range(len(before)):
        place = before[place][0]
    last = place
    place, step = before[last]
    steps = [step]
    while place != last:
        place, step = before[place]
        steps.append(step)
    found = [step for step in steps[::-1] if step is not None]
    first = found.index(min(found))
    return found[first:] + found[:first]


def negative_way(beads, sights):
    """Return the list of the steps of sights along a closed way with a negative sum, or None."""
    bounds = bounds_of(beads, sights, [])
    sums = first_sums(bounds, 0)
    before = {}
    lowered = None
    # A way without a circle is shorter than this: if the sums go on becoming
    # less, there is a circle that lowers them each time.
    for _ in range(len(sums)):
        lowered = lower_sums(bounds, sums, before)
        if lowered is None:
            return None
    return closed_way(before, lowered)


def require_no_contradiction(beads, sights):
    """Raise Contradiction if no row fits the sights."""
    if negative_way(beads, sights) is not None:
        raise Contradiction("no row fits all sights")


def most_dark(beads, sights, source, more):
    """Return the most dark beads between the source and each place, as a dict; some row must fit.

    The places are the source, more ones, the ends of the row and of the sights.
    """
    bounds = bounds_of(beads, sights, [source] + more)
    sums = first_sums(bounds, source)
    lowered = source
    while lowered is not None:
        lowered = lower_sums(bounds, sums, {})
    return sums


def light_sights(sights):
    """Return the sights with the numbers of light beads in place of those of dark ones."""
    return [(start, end, end - start - dark) for start, end, dark in sights]


def earliest_runs(beads, sights):
    """Return runs with as many dark beads as possible before each place; some row must fit."""
    found = []
    sums = most_dark(beads, sights, 0, [])
    places = sorted(sums)
    for low, high in zip(places, places[1:]):
        dark = sums[high] - sums[low]
        found.append((DARK, dark))
        found.append((LIGHT, high - low - dark))
    return found


def fits(beads, *sights):
    """Return whether some row has so many beads and the dark numbers of all sights."""
    require_number(beads, 1)
    for sight in sights:
        if not is_sight_of(sight, beads):
            raise InvalidSight("a sight is not a tuple (start, end, dark) for so many beads")
    return negative_way(beads, sights) is None


def contradiction(beads, sights):
    """Return the steps (index, forward) of a closed way that shows that no row fits, or None if some row does."""
    require_sights(beads, sights)
    return negative_way(beads, sights)


def stretch_range(beads, sights, start, end):
    """Return the least and the greatest number of dark beads at the places start to end - 1 of rows that fit."""
    require_sights(beads, sights)
    if not is_integer_within(end, 0, beads) or not is_integer_within(start, 0, end):
        raise InvalidStretch("start and end are not integers with 0 <= start <= end <= beads")
    require_no_contradiction(beads, sights)
    dark = most_dark(beads, sights, start, [end])[end]
    light = most_dark(beads, light_sights(sights), start, [end])[end]
    return end - start - light, dark


def latest_row(beads, sights):
    """Return the row that fits with as few dark beads as possible before each place."""
    require_sights(beads, sights)
    require_no_contradiction(beads, sights)
    return strand_of(exchanged(earliest_runs(beads, light_sights(sights))))


def earliest_row(beads, sights):
    """Return the row that fits with as many dark beads as possible before each place."""
    require_sights(beads, sights)
    require_no_contradiction(beads, sights)
    return strand_of(earliest_runs(beads, sights))
