"""The loom: rows woven from spools, tablets flipped, and all of it undone and redone."""

from wornband.bands import is_row, left_place
from wornband.errors import BadRow, NoTablet, NothingLeft, SpoolDry, TooTight
from wornband.tablets import flipped, turned, twisting
from wornband.turnings import laid


class Stage:
    """A loom as it is behind a deed, or at the start; nothing in it is changed once it is made."""

    def __init__(self, deed, standing, reached, highest, lengths, pick):
        self.deed = deed
        self.standing = standing
        self.reached = reached
        self.highest = highest
        self.lengths = lengths
        self.pick = pick


def first_stage(draft, spools):
    """A loom at the start."""
    return Stage(None, list(draft), [0] * len(draft), [0] * len(draft), dict(spools), None)


def woven_stage(stage, row, most):
    """The loom behind one more row."""
    if not is_row(row, len(stage.standing)):
        raise BadRow("a row has one turn for each tablet")
    reached = [twist + twisting(tablet, turn) for twist, tablet, turn in zip(stage.reached, stage.standing, row)]
    if any([abs(twist) > most for twist in reached]):
        raise TooTight("a tablet would be twisted too far")
    lengths = drawn_off(stage.lengths, taken(stage.standing, row))
    highest = [max(peak, abs(twist)) for peak, twist in zip(stage.highest, reached)]
    standing = [turned(tablet, turn) for tablet, turn in zip(stage.standing, row)]
    pick = [left_place(tablet, turn) for tablet, turn in zip(standing, row)]
    return Stage(("row", row), standing, reached, highest, lengths, pick)


def flipped_stage(stage, k):
    """The loom behind the flipping of a tablet."""
    check_tablet(stage.standing, k)
    standing = list(stage.standing)
    standing[k] = flipped(standing[k])
    return Stage(("flip", k), standing, stage.reached, stage.highest, stage.lengths, None)


def check_tablet(draft, k):
    """Refuse a tablet that the draft does not have."""
    if k < 0 or k >= len(draft):
        raise NoTablet(f"there is no tablet {k}")


def taken(draft, row):
    """The length that a row takes of each colour, as a dict."""
    lengths = {}
    for tablet, turn in zip(draft, row):
        for colour in tablet[1]:
            lengths[colour] = lengths.get(colour, 0) + (1 if turn == "i" else 2)
    return lengths


def drawn_off(spools, lengths):
    """What is left on the spools when these lengths are taken."""
    left = dict(spools)
    for colour, length in lengths.items():
        if left.get(colour, 0) < length:
            raise SpoolDry(f"the spool of {colour} falls short")
        left[colour] -= length
    return left


class Loom:
    """A draft on a loom, with a greatest twist and spools."""

    def __init__(self, draft, most, spools):
        self.most = most
        self.start = first_stage(draft, spools)
        self.course = []
        self.undone = []

    def now(self):
        """The loom as it is behind all deeds that stand."""
        return self.course[-1] if self.course else self.start

    def go_on(self, stages):
        """Take on what new deeds have made of the loom; no deed at all leaves what may be redone."""
        if stages:
            self.course.extend(stages)
            self.undone = []

    def weave(self, row):
        """Weave a row, and tell the pick."""
        stage = woven_stage(self.now(), row, self.most)
        self.go_on([stage])
        return list(stage.pick)

    def flip(self, k):
        """Flip a tablet."""
        self.go_on([flipped_stage(self.now(), k)])

    def follow(self, program):
        """Weave all rows of a program or, where it is refused, none; tell how many."""
        stage = self.now()
        stages = []
        for row in laid(program, len(stage.standing)):
            stage = woven_stage(stage, row, self.most)
            stages.append(stage)
        self.go_on(stages)
        return len(stages)

    def undo(self):
        """Undo the last deed that stands, and tell it."""
        if not self.course:
            raise NothingLeft("there is nothing to undo")
        stage = self.course.pop()
        self.undone.append(stage)
        return stage.deed

    def redo(self):
        """Redo the deed that was undone last, and tell it."""
        if not self.undone:
            raise NothingLeft("there is nothing to redo")
        stage = self.undone.pop()
        self.course.append(stage)
        return stage.deed

    def tablets(self):
        """The tablets as they stand."""
        return list(self.now().standing)

    def band(self):
        """The band that is woven."""
        return [list(stage.pick) for stage in self.course if stage.pick is not None]

    def deeds(self):
        """The deeds that stand."""
        return [stage.deed for stage in self.course]

    def twist(self, k):
        """The twist of a tablet."""
        return self.now().reached[k]

    def peak(self, k):
        """The greatest twist that a tablet has had, without its sign."""
        return self.now().highest[k]

    def rest(self, colour):
        """What is left on the spool of a colour."""
        return self.now().lengths.get(colour, 0)
