"""The refusals of wornband."""


class BandError(ValueError):
    """Any refusal."""


class BadTablet(BandError):
    """A lay, holes or a stand that no tablet has."""


class BadRow(BandError):
    """A row that has not just one turn for each tablet."""


class BadText(BandError):
    """A text that nothing is written as."""


class BadMark(BandError):
    """A place, side or sign that a strip or fragment does not have."""


class TooLong(BandError):
    """A program of too many rows."""


class TooTight(BandError):
    """A row behind which a tablet would be twisted too far."""


class SpoolDry(BandError):
    """A row for which a spool falls short."""


class NoTablet(BandError):
    """A tablet that is not there."""


class NothingLeft(BandError):
    """Nothing is left to undo or to redo."""


class SeenThread(BandError):
    """A thread that is seen in the band and so keeps its colour."""


class Unlike(BandError):
    """Two bands that part: at which pick, and on which side."""

    def __init__(self, pick, side):
        self.pick = pick
        self.side = side


class NoSuchWay(BandError):
    """A number or a column that no way has."""


class Barred(BandError):
    """An outcome that has no plan."""
