"""What several test files use."""

COLOURS = "abcdefghijklmnopqrstuvwxyz"
WORN = ("?", "?", "?")


def marks(text):
    """A strip of marks that are written with blanks between."""
    return [tuple(word) for word in text.split()]


def loom_asked(loom):
    """All that can be asked of a loom."""
    tablets = loom.tablets()
    return {
        "tablets": tablets, "band": loom.band(), "deeds": loom.deeds(),
        "twists": [loom.twist(k) for k in range(len(tablets))],
        "peaks": [loom.peak(k) for k in range(len(tablets))],
        "rests": [loom.rest(colour) for colour in COLOURS],
    }
