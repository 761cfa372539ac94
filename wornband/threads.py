"""Threads found: the holes of a tablet from what is left of its strip."""

from wornband.errors import BadMark
from wornband.marks import WORN
from wornband.tablets import HOLES

TWISTS = {"s": 1, "z": -1, "o": 0}


def threaded(strip):
    """The holes of the S tablet with the stand 0 that left this strip, or the clash for which there is none."""
    if any([mark[2] == WORN for mark in strip]):
        raise BadMark("a slant is worn away")
    firsts = {}
    for pick, side, hole, colour in spoken(strip):
        if hole not in firsts:
            firsts[hole] = (pick, side, colour)
        elif firsts[hole][2] != colour:
            return ("clash", firsts[hole][:2], (pick, side))
    return ("holes", "".join([firsts[hole][2] if hole in firsts else WORN for hole in range(HOLES)]))


def spoken(strip):
    """What the strip says, in order: tuples (pick, side, hole, colour)."""
    words = []
    stand = 0
    for pick, (face, back, slant) in enumerate(strip):
        stand += TWISTS[slant]
        words.append((pick, "face", stand % HOLES, face))
        words.append((pick, "back", (stand + 2) % HOLES, back))
    return [word for word in words if word[3] != WORN]
