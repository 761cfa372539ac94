"""The workshop: a worn band spotted mark by mark, restored, and put onto a loom."""

from wornband.bands import rows_of
from wornband.errors import Barred, NothingLeft
from wornband.loom import Loom, check_tablet, taken
from wornband.marks import Fragment
from wornband.restorer import restore


class Workshop:
    """A draft, a looseness, and a fragment of so many picks."""

    def __init__(self, draft, tall, loose):
        self.draft = list(draft)
        self.loose = loose
        self.fragment = Fragment(tall, len(draft))
        self.past = []

    def spot(self, pick, k, side, sign):
        """Put a sign into a mark."""
        before = self.fragment.spot(pick, k, side, sign)
        self.past.append(("sign", pick, k, side, before))

    def wear(self, pick, k, side):
        """Wear a sign of a mark away."""
        before = self.fragment.wear(pick, k, side)
        self.past.append(("sign", pick, k, side, before))

    def exchange(self, k, tablet):
        """Exchange a tablet for another one, as it stands ahead of all picks."""
        check_tablet(self.draft, k)
        self.past.append(("tablet", k, self.draft[k]))
        self.draft[k] = tablet

    def undo(self):
        """Undo the last deed that was not undone."""
        if not self.past:
            raise NothingLeft("there is nothing to undo")
        word, *what = self.past.pop()
        if word == "sign":
            pick, k, side, before = what
            self.fragment.put(pick, k, side, before)
        else:
            k, tablet = what
            self.draft[k] = tablet

    def draft_now(self):
        """The tablets as they stand ahead of all picks."""
        return list(self.draft)

    def sheet(self):
        """The sheet of the fragment."""
        return self.fragment.sheet()

    def restoring(self, k):
        """The restoring of a tablet."""
        check_tablet(self.draft, k)
        return restore(self.draft[k], self.fragment.strip(k), self.loose)

    def outcome(self):
        """The plan that restores the whole fragment, or the first tablet that bars it."""
        columns = []
        bounds = []
        for k in range(len(self.draft)):
            bound, turns, lists = self.restoring(k)
            if bound is None:
                return ("barred", k, lists)
            columns.append(turns)
            bounds.append(bound)
        return ("rows", rows_of(columns), bounds)

    def plan_found(self):
        """The plan and the bounds of the outcome."""
        word, what, more = self.outcome()
        if word == "barred":
            raise Barred(f"tablet {what} bars the plan")
        return (what, more)

    def need(self):
        """What the plan takes, as pairs (colour, length), by rising colour."""
        plan, bounds = self.plan_found()
        lengths = {}
        for row in plan:
            for colour, length in taken(self.draft, row).items():
                lengths[colour] = lengths.get(colour, 0) + length
        return sorted(lengths.items())

    def onto(self, spools):
        """A new loom onto which the plan is put."""
        plan, bounds = self.plan_found()
        loom = Loom(self.draft, max(bounds, default=0), spools)
        for row in plan:
            loom.weave(row)
        return loom
