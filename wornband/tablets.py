"""Tablets, and what turning, flipping and rolling make of them."""

from wornband.errors import BadTablet

HOLES = 4
TURNS = "fbi"
STEPS = {"f": 1, "b": -1, "i": 0}
OPPOSITES = {"f": "b", "b": "f", "i": "i"}
OTHER_LAYS = {"S": "Z", "Z": "S"}


def made(lay, holes, stand):
    """The tablet of a lay, four colours and the hole on top."""
    if lay not in OTHER_LAYS:
        raise BadTablet("a lay is S or Z")
    if len(holes) != HOLES or not all([is_colour(sign) for sign in holes]):
        raise BadTablet("the holes are four colours, a to z")
    if stand < 0 or stand >= HOLES:
        raise BadTablet("a stand is 0 to 3")
    return (lay, holes, stand)


def is_colour(text):
    """Whether a text is a colour."""
    return len(text) == 1 and "a" <= text <= "z"


def top(tablet):
    """The colour of the thread on top."""
    lay, holes, stand = tablet
    # Only made refuses a stand; one beyond 3 that is handed in goes round and round.
    return holes[stand % HOLES]


def bottom(tablet):
    """The colour of the thread at the bottom."""
    lay, holes, stand = tablet
    return holes[(stand + 2) % HOLES]


def twisting(tablet, turn):
    """The twist that a turn of this tablet gives."""
    step = STEPS[turn]
    return step if tablet[0] == "S" else -step


def turned(tablet, turn):
    """The tablet behind a turn."""
    lay, holes, stand = tablet
    return (lay, holes, (stand + STEPS[turn]) % HOLES)


def flipped(tablet):
    """The tablet with the other lay and the same threads on top and at the bottom."""
    lay, holes, stand = tablet
    mirrored = holes[0] + holes[3] + holes[2] + holes[1]
    return (OTHER_LAYS[lay], mirrored, (HOLES - stand) % HOLES)


def rolled(tablet, many):
    """The tablet with its colours and its stand carried on by so many holes."""
    lay, holes, stand = tablet
    cut = -many % HOLES
    return (lay, holes[cut:] + holes[:cut], (stand + many) % HOLES)


def opposite(turns):
    """The turns, each by its opposite, in the same order."""
    return "".join([OPPOSITES[turn] for turn in turns])
