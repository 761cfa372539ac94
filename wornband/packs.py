"""Packs: the tablets that turn alike in a plan."""

from wornband.bands import column


def grouped(plan, width):
    """The packs of a plan for so many tablets."""
    packs = {}
    for k in range(width):
        packs.setdefault(column(plan, k), []).append(k)
    return list(packs.values())


def called(plan, width):
    """The packs' turns, row by row."""
    firsts = [pack[0] for pack in grouped(plan, width)]
    return ["".join([row[k] for k in firsts]) for row in plan]


def unpacked(packs, calls):
    """The plan that these packs and calls tell."""
    homes = {k: at for at, pack in enumerate(packs) for k in pack}
    return ["".join([call[homes[k]] for k in sorted(homes)]) for call in calls]


def parted(plan, one, other):
    """The first row in which two tablets turn unlike, or None."""
    for at, row in enumerate(plan):
        if row[one] != row[other]:
            return at
    return None
