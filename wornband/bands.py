"""Bands: what a draft of tablets weaves by a plan of rows."""

from wornband.tablets import TURNS, bottom, top, turned, twisting

SIDES = ("face", "back", "slant")
SLANTS = {1: "s", -1: "z", 0: "o"}


def is_row(text, width):
    """Whether a text has just one turn for each of so many tablets."""
    return len(text) == width and all([sign in TURNS for sign in text])


def left_place(tablet, turn):
    """The place that a tablet leaves, as it stands behind this turn."""
    return (top(tablet), bottom(tablet), SLANTS[twisting(tablet, turn)])


def woven(draft, plan):
    """The band that the draft weaves by the plan."""
    standing = list(draft)
    band = []
    for row in plan:
        standing = [turned(tablet, turn) for tablet, turn in zip(standing, row)]
        band.append([left_place(tablet, turn) for tablet, turn in zip(standing, row)])
    return band


def twist_course(tablet, turns):
    """The twists of a tablet behind none, one, two .. all of its turns."""
    course = [0]
    for turn in turns:
        course.append(course[-1] + twisting(tablet, turn))
    return course


def twists(draft, plan):
    """The twist of each tablet behind the plan."""
    return [twist_course(tablet, column(plan, k))[-1] for k, tablet in enumerate(draft)]


def peaks(draft, plan):
    """The greatest twist of each tablet on the way, without its sign."""
    courses = [twist_course(tablet, column(plan, k)) for k, tablet in enumerate(draft)]
    return [max([abs(twist) for twist in course]) for course in courses]


def column(plan, k):
    """The turns of tablet k, row by row."""
    return "".join([row[k] for row in plan])


def rows_of(columns):
    """The plan that has these columns."""
    tall = len(columns[0]) if columns else 0
    return ["".join([turns[at] for turns in columns]) for at in range(tall)]
