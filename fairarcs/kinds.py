"""Kinds of live rings: with a limit for the arcs that are out, and with a toll for their beads."""

from fairarcs.errors import TooManyTakes
from fairarcs.integers import digits_of, require_number
from fairarcs.live import LiveRing


class LimitedRing(LiveRing):
    """A live ring that allows only so many arcs to be out at a time."""

    def __init__(self, ring, limit=5):
        super().__init__(ring)
        require_number(limit, 0)
        self.limit = limit

    def require_room(self, more):
        """Raise TooManyTakes if, with so many more arcs out than now, the limit is reached."""
        if len(self.lengths_out()) + more >= self.limit:
            raise TooManyTakes("as many arcs as the limit allows are out")

    def told(self):
        """Return what there is to tell, and how many takes are still allowed."""
        return super().told() + [f"left {digits_of(self.limit - len(self.lengths_out()))}"]


class TolledRing(LiveRing):
    """A live ring with a toll for each bead that is out."""

    def __init__(self, ring, toll=1):
        super().__init__(ring)
        require_number(toll, 0)
        self.toll = toll

    @property
    def due(self):
        """The toll for all beads that are out."""
        return self.toll * sum(self.lengths_out())

    def told(self):
        """Return what there is to tell, and what is due."""
        return super().told() + [f"due {digits_of(self.due)}"]


class LimitedTolledRing(LimitedRing, TolledRing):
    """A live ring with a limit and a toll."""

    def __init__(self, ring, limit=5, toll=1):
        super().__init__(ring, limit)
        require_number(toll, 0)
        self.toll = toll

    def told(self):
        """Return what there is to tell, what is due, and how many takes are still allowed."""
        return super().told()
