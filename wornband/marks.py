"""Worn marks: places of which some signs are worn away, and the sheets that they make."""

from wornband.bands import SIDES
from wornband.errors import BadMark, BadText
from wornband.tablets import is_colour

WORN = "?"
SLANT_SIGNS = ("s", "z", "o")
MOST_PICKS = 60
MOST_TABLETS = 8


def agrees(place, mark):
    """Whether all that is left of a mark is as in the place."""
    return all([suits(sign, left) for sign, left in zip(place, mark)])


def suits(sign, left):
    """Whether a sign of a place is as the same sign of a mark, if that is left."""
    return left == WORN or left == sign


def parting(band, sheet):
    """The tuple (pick, tablet, side) at which a band parts from a sheet, or None."""
    for at, (pick, marks) in enumerate(zip(band, sheet)):
        for k, (place, mark) in enumerate(zip(pick, marks)):
            for side, sign, left in zip(SIDES, place, mark):
                if not suits(sign, left):
                    return (at, k, side)
    return None


def fits(side, sign):
    """Whether a text is a sign that may stand on this side."""
    return sign in SLANT_SIGNS if side == "slant" else is_colour(sign)


def sheet_text(sheet):
    """The text of a sheet."""
    return "\n".join([" ".join(["".join(mark) for mark in pick]) for pick in sheet])


def sheet_of(text):
    """The sheet that is written as this text."""
    if text == "":
        return []
    sheet = [pick_of(line) for line in text.split("\n")]
    wide = len(sheet[0])
    if len(sheet) > MOST_PICKS or wide > MOST_TABLETS:
        raise BadText("a sheet has at most 60 picks and 8 tablets")
    if any([len(pick) != wide for pick in sheet]):
        raise BadText("each line has as many marks as the first one")
    return sheet


def pick_of(line):
    """The marks of one line."""
    return [mark_of(word) for word in line.split(" ")]


def mark_of(word):
    """The mark that is written as these three signs."""
    if len(word) != len(SIDES):
        raise BadText("a mark is written as three signs")
    if not all([sign == WORN or fits(side, sign) for side, sign in zip(SIDES, word)]):
        raise BadText("a sign does not fit its side")
    return (word[0], word[1], word[2])


class Fragment:
    """A sheet of so many picks and tablets, all worn at first."""

    def __init__(self, tall, wide):
        self.picks = [[(WORN, WORN, WORN)] * wide for at in range(tall)]

    def spot(self, pick, k, side, sign):
        """Put a sign into a mark, and tell the one that stood there ahead."""
        self.check(pick, k, side)
        if not fits(side, sign):
            raise BadMark(f"no such sign stands on the {side}")
        return self.put(pick, k, side, sign)

    def wear(self, pick, k, side):
        """Wear a sign of a mark away, and tell the one that stood there ahead."""
        self.check(pick, k, side)
        return self.put(pick, k, side, WORN)

    def check(self, pick, k, side):
        """Refuse a place that the fragment does not have."""
        if pick < 0 or pick >= len(self.picks):
            raise BadMark(f"there is no pick {pick}")
        if k < 0 or k >= len(self.picks[pick]):
            raise BadMark(f"there is no tablet {k}")
        if side not in SIDES:
            raise BadMark("a side is face, back or slant")

    def put(self, pick, k, side, sign):
        """Put any sign into a mark that is there, and tell the one that stood there ahead."""
        signs = list(self.picks[pick][k])
        at = SIDES.index(side)
        before = signs[at]
        signs[at] = sign
        self.picks[pick][k] = tuple(signs)
        return before

    def strip(self, k):
        """The marks of one tablet, pick by pick."""
        return [pick[k] for pick in self.picks]

    def sheet(self):
        """The whole sheet as it is now."""
        return [list(pick) for pick in self.picks]

    def known(self):
        """How many signs are not worn away."""
        return sum([1 for pick in self.picks for mark in pick for sign in mark if sign != WORN])
