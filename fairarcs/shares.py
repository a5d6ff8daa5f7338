"""Shares: several persons divide a ring by weights, with few cuts."""

from fairarcs.errors import InvalidShares, InvalidWeights, NotDivisible
from fairarcs.integers import is_integer, is_integer_within
from fairarcs.pieces import least_start
from fairarcs.strands import cut_between, require_strand, runs_between, total_beads, total_dark


def require_weights(weights):
    """Raise InvalidWeights if there are none or one is not an integer from 1 on."""
    if len(weights) == 0:
        raise InvalidWeights("there are no weights")
    for weight in weights:
        if not is_integer(weight) or weight < 1:
            raise InvalidWeights("a weight is not an integer from 1 on")


def fair_numbers(ring, weights):
    """Return the list of (beads, dark beads) of all persons."""
    found = []
    total = sum(weights)
    for index, weight in enumerate(weights):
        beads = total_beads(ring) * weight
        dark = total_dark(ring) * weight
        if beads % total != 0 or dark % total != 0:
            raise NotDivisible(index)
        found.append((beads // total, dark // total))
    return found


def runs_of(ring, arcs):
    """Return the runs of the beads of some arcs that do not go around over place 0."""
    return [run for start, length in arcs for run in runs_between(ring, start, start + length)]


def arcs_between(arcs, first, end):
    """Return the arcs of the beads with the indexes first to end - 1 among all beads of some arcs."""
    return [(start + offset, length) for start, offset, length in cut_between(arcs, first, end)]


def closed(arcs, beads):
    """Return some arcs as parts: those that meet over place 0 are one part."""
    first, first_length = arcs[0]
    last, last_length = arcs[-1]
    if len(arcs) > 1 and first == 0 and last + last_length == beads:
        return arcs[1:-1] + [(last, last_length + first_length)]
    return arcs


def share(ring, *weights):
    """Return the list of the parts of each person, as many beads and dark beads as the weights say."""
    require_strand(ring)
    require_weights(weights)
    found = []
    left = [(0, total_beads(ring))]
    # The rest of the last person needs no rule of its own: it is the arc of
    # all beads that are left, from their place 0 on.
    for length, dark in fair_numbers(ring, weights):
        runs = runs_of(ring, left)
        start = least_start(runs, length, dark)
        end = start + length
        beads = total_beads(runs)
        around = max(0, end - beads)
        taken = arcs_between(left, 0, around) + arcs_between(left, start, end)
        left = arcs_between(left, around, start) + arcs_between(left, end, beads)
        found.append(closed(taken, total_beads(ring)))
    return found


def is_part(value, beads):
    """Return whether any value is an arc (start, length) with at least one bead."""
    if not isinstance(value, tuple) or len(value) != 2:
        return False
    start, length = value
    return is_integer_within(start, 0, beads - 1) and is_integer_within(length, 1, beads)


def are_parts(value, beads):
    """Return whether any value is a non-empty list of parts."""
    return isinstance(value, list) and len(value) > 0 and all([is_part(part, beads) for part in value])


def owned_stretches(shares, beads):
    """Return the ascending list of (start, end, owner) of all parts, divided where they go around over place 0."""
    found = []
    for owner, parts in enumerate(shares):
        for start, length in parts:
            end = start + length
            found.append((start, min(end, beads), owner))
            if end > beads:
                found.append((0, end - beads, owner))
    return sorted(found)


def cover_once(stretches, beads):
    """Return whether ascending stretches cover each bead exactly once."""
    reached = 0
    for start, end, _ in stretches:
        if start != reached:
            return False
        reached = end
    return reached == beads


def count_cuts(ring, shares):
    """Return the number of places at which the owner changes, around the ring."""
    require_strand(ring)
    beads = total_beads(ring)
    if not isinstance(shares, list) or not all([are_parts(parts, beads) for parts in shares]):
        raise InvalidShares("the shares are not a list of non-empty lists of parts")
    stretches = owned_stretches(shares, beads)
    if not cover_once(stretches, beads):
        raise InvalidShares("the parts do not cover each bead exactly once")
    owners = [owner for _, _, owner in stretches]
    return sum([int(owner != owners[at - 1]) for at, owner in enumerate(owners)])
