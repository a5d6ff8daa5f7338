"""The errors of the package, one class for each kind of failure."""


class BeadError(ValueError):
    """The base class of all errors of the package."""


class InvalidStrand(BeadError):
    """A value is not a strand."""


class InvalidPlace(BeadError):
    """A value is not a place of the strand."""


class InvalidIndex(BeadError):
    """A value is not an index of one of the possible answers."""


class InvalidLength(BeadError):
    """A value is not the length of an arc of the ring."""


class InvalidDark(BeadError):
    """A value is not a possible number of dark beads."""


class InvalidNumber(BeadError):
    """A value is not an integer, or it is below its least value."""


class InvalidWeights(BeadError):
    """There are no weights, or one of them is not a positive integer."""


class InvalidShares(BeadError):
    """A value is not a list of lists of parts that cover the ring once."""


class InvalidPersons(BeadError):
    """A value is not a possible number of persons."""


class InvalidSight(BeadError):
    """A value is not a sight of the hidden row."""


class InvalidSights(BeadError):
    """A value is not a list of sights of the hidden row."""


class InvalidStretch(BeadError):
    """Two values are not the start and the end of a stretch of the row."""


class Contradiction(BeadError):
    """No row fits all sights."""


class InvalidArc(BeadError):
    """A value is not an arc that can be taken out of the ring."""


class NothingToUndo(BeadError):
    """There is no action that can be taken back."""


class TooManyTakes(BeadError):
    """As many arcs are out already as the limit allows."""


class InvalidText(BeadError):
    """A value is not the text of such a thing."""


class NotDivisible(BeadError):
    """A share would not consist of whole beads; index tells whose."""

    def __init__(self, index):
        super().__init__(f"the share with the index {index} is not of whole beads")
        self.index = index
