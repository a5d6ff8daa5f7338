"""A live ring: arcs are taken out of it, rows are put into it, and both can be undone."""

from fairarcs.arcs import arc_runs
from fairarcs.counts import starts
from fairarcs.errors import InvalidArc, NothingToUndo
from fairarcs.integers import digits_of, is_integer_within
from fairarcs.strands import (is_strand, require_place, require_strand, runs_between, strand_of, total_beads,
                              total_dark)
from fairarcs.texts import parse_strand


def require_proper_arc(ring, value):
    """Raise InvalidArc if a value is not an arc (start, length) of some beads of a ring, but not of all."""
    beads = total_beads(ring)
    if not isinstance(value, tuple) or len(value) != 2:
        raise InvalidArc("an arc is a tuple (start, length)")
    start, length = value
    if not is_integer_within(start, 0, beads - 1) or not is_integer_within(length, 1, beads - 1):
        raise InvalidArc("the arc does not start at a place, or it does not take some beads and leave others")


def taken_out(ring, start, length):
    """Return two strands: that of an arc of a ring, and that of the ring without it."""
    beads = total_beads(ring)
    end = start + length
    around = max(0, end - beads)
    left = runs_between(ring, around, start) + runs_between(ring, end, beads)
    return strand_of(arc_runs(ring, start, length)), strand_of(left)


class LiveRing:
    """A ring that changes."""

    COLOURS = ("D", "L")

    def __init__(self, ring):
        require_strand(ring)
        self.ring = ring
        # For each action that can be taken back, the latest one last: its
        # word, the ring before it, and how many beads it took out.
        self.actions = []

    def take(self, start, length):
        """Take out an arc, close the ring up, and return the arc as a strand."""
        require_proper_arc(self.ring, (start, length))
        self.require_room(0)
        taken, left = taken_out(self.ring, start, length)
        self.actions.append(("take", self.ring, length))
        self.ring = left
        return taken

    def put(self, place, row):
        """Insert a row before the bead at a place."""
        beads = total_beads(self.ring)
        require_place(place, beads - 1)
        require_strand(row)
        before = runs_between(self.ring, 0, place)
        behind = runs_between(self.ring, place, beads)
        self.actions.append(("put", self.ring, 0))
        self.ring = strand_of([*before, *row, *behind])

    def undo(self):
        """Take the latest action back and return its word."""
        if len(self.actions) == 0:
            raise NothingToUndo("no action can be taken back")
        word, self.ring, _ = self.actions.pop()
        return word

    def try_takes(self, *arcs):
        """Return the strands that would be taken one after another, and leave the ring as it is."""
        found = []
        left = self.ring
        for many, arc in enumerate(arcs):
            require_proper_arc(left, arc)
            self.require_room(many)
            start, length = arc
            taken, left = taken_out(left, start, length)
            found.append(taken)
        return found

    def require_room(self, more):
        """Raise an error if, with so many more arcs out than now, no other one may be taken; here any may."""

    def lengths_out(self):
        """Return the list of the lengths of all arcs that are out."""
        return [beads for word, _, beads in self.actions if word == "take"]

    def starts_now(self, length, dark):
        """Generate the places of all arcs with these numbers, of the ring as it is when this begins."""
        yield from starts(self.ring, length, dark)

    def told(self):
        """Return what there is to tell about the ring, as a list of strings."""
        return [f"beads {digits_of(self.bead_count)}", f"dark {digits_of(self.dark_count)}"]

    def __len__(self):
        return len(self.actions)

    @property
    def now(self):
        """The ring as a strand."""
        return self.ring

    @property
    def bead_count(self):
        """The number of beads."""
        return total_beads(self.ring)

    @property
    def dark_count(self):
        """The number of dark beads."""
        return total_dark(self.ring)

    @classmethod
    def read(cls, text):
        """Return an object of this class for the strand that a text writes."""
        return cls(parse_strand(text))

    @staticmethod
    def is_valid(value):
        """Return whether any value is a strand."""
        return is_strand(value)
