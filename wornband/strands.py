"""Strands: one tablet and its turns, and the steps that keep its band."""

from wornband.bands import SIDES, woven
from wornband.errors import SeenThread, Unlike
from wornband.tablets import HOLES, flipped, opposite, rolled, turned


def left_by(strand):
    """The band of a strand."""
    tablet, turns = strand
    return [pick[0] for pick in woven([tablet], list(turns))]


def seen(strand):
    """The holes whose threads are on the face or the back of some place."""
    tablet, turns = strand
    shown = {}
    for turn in turns:
        tablet = turned(tablet, turn)
        shown[tablet[2]] = True
        shown[(tablet[2] + 2) % HOLES] = True
    return sorted(shown)


def plain(strand):
    """The plain form: strands with the same band have the same, all others another."""
    lay, holes, stand = strand[0]
    shown = seen(strand)
    signs = "".join([colour if hole in shown else "?" for hole, colour in enumerate(holes)])
    tablet = (lay, signs, stand) if lay == "S" else flipped((lay, signs, stand))
    slants = "".join([slant for face, back, slant in left_by(strand)])
    return (rolled(tablet, -tablet[2])[1], slants)


def stepped(strand, step):
    """The strand behind a step."""
    tablet, turns = strand
    if step[0] == "flip":
        return (flipped(tablet), opposite(turns))
    if step[0] == "roll":
        return (rolled(tablet, step[1]), turns)
    return (dyed(strand, step[1] % HOLES, step[2]), turns)


def dyed(strand, hole, colour):
    """The strand's tablet with another colour in a hole that is not seen."""
    if hole in seen(strand):
        raise SeenThread(f"hole {hole} is seen")
    lay, holes, stand = strand[0]
    return (lay, holes[:hole] + colour + holes[hole + 1:], stand)


def steps(one, other):
    """Steps that lead from one strand to another with the same band."""
    where = parting_of(left_by(one), left_by(other))
    if where is not None:
        raise Unlike(where[0], where[1])
    course = turning_steps(one, other)
    for step in course:
        one = stepped(one, step)
    return course + dyeing_steps(one[0], other[0])


def parting_of(ones, others):
    """The pair (pick, side) at which two strands' bands part, or None."""
    for pick, (place, against) in enumerate(zip(ones, others)):
        for at, side in enumerate(SIDES):
            if place[at] != against[at]:
                return (pick, side)
    if len(ones) != len(others):
        return (min(len(ones), len(others)), "end")
    return None


def turning_steps(one, other):
    """Steps behind which the first tablet has the lay and the stand of the second."""
    course = []
    if one[0][0] != other[0][0]:
        course.append(("flip",))
        one = stepped(one, ("flip",))
    many = (other[0][2] - one[0][2]) % HOLES
    if many != 0:
        course.append(("roll", many))
    return course


def dyeing_steps(tablet, wanted):
    """Steps that dye the holes in which two tablets' colours differ."""
    return [("dye", hole, new) for hole, (old, new) in enumerate(zip(tablet[1], wanted[1])) if old != new]
