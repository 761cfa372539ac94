"""The looker: whether a search or a restoring, whoever made it, shows what it is said to show."""

from wornband.restorer import START, does, onward


def holds(tablet, strip, loose, bound, lists):
    """Whether a search shows that no column does."""
    if len(lists) < 2 or len(lists) > len(strip) + 1:
        return False
    if lists[-1] != [] or START not in lists[0]:
        return False
    return all([led_on(tablet, strip[at], loose, bound, lists[at], lists[at + 1]) for at in range(len(lists) - 1)])


def led_on(tablet, mark, loose, bound, states, following):
    """Whether each turn that may come at a mark leads from these states to one of the following."""
    told = set(following)
    for state in states:
        for turn, after in onward(tablet, mark, loose, bound, state):
            if after not in told:
                return False
    return True


def settled(tablet, strip, loose, triple):
    """Whether a triple is a restoring whose bound is shown to be the least."""
    bound, text, lists = triple
    if bound is None:
        return text is None and holds(tablet, strip, loose, len(strip), lists)
    if text is None or not does(tablet, strip, loose, bound, text):
        return False
    if bound == 0:
        return lists == []
    return holds(tablet, strip, loose, bound - 1, lists)
