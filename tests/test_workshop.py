"""The workshop: points 28 and 29, points 16 and 22 as far as it uses them, and point 1 for it."""

import copy
import itertools
import unittest

from tests.helpers import COLOURS, WORN, loom_asked
from wornband.bands import column, peaks, woven
from wornband.chronicle import told
from wornband.errors import BadMark, Barred, NoTablet, NothingLeft, SpoolDry
from wornband.loom import Loom
from wornband.looker import settled
from wornband.marks import parting
from wornband.restorer import restore
from wornband.workshop import Workshop

SIDES = ("face", "back", "slant")
DRAFT = [("S", "abcd", 0), ("Z", "aabb", 1), ("S", "aaab", 3)]
OTHER = ("Z", "wxyz", 2)


def asked(shop):
    """All that can be asked of a workshop, but for its looms."""
    draft = shop.draft_now()
    return (draft, shop.sheet(), [shop.restoring(k) for k in range(len(draft))], shop.outcome())


def spotted(draft, plan, loose, step=1):
    """A workshop in which each so many-th sign of a plan's band is spotted."""
    shop = Workshop(draft, len(plan), loose)
    places = list(itertools.product(range(len(plan)), range(len(draft)), range(3)))
    band = woven(draft, plan)
    for pick, k, at in places[::step]:
        shop.spot(pick, k, SIDES[at], band[pick][k][at])
    return shop


def barred(draft, tall, loose, k):
    """A workshop that is barred by a colour that tablet k does not have."""
    shop = Workshop(draft, tall, loose)
    shop.spot(tall - 1, k, "face", "q")
    return shop


class ShopCase(unittest.TestCase):
    def refuse(self, error, deed, *more):
        """A refusal, of just this kind, that changes nothing and is no deed."""
        shop = deed.__self__
        ahead = asked(shop)
        with self.subTest(deed=deed.__name__, more=more):
            with self.assertRaises(error) as caught:
                deed(*more)
            self.assertIs(type(caught.exception), error)
            self.assertEqual(asked(shop), ahead)


class Deeds(ShopCase):
    def test_a_new_workshop(self):
        for tall in (0, 1, 60):
            shop = Workshop(DRAFT, tall, 1)
            self.assertEqual(shop.draft_now(), DRAFT)
            self.assertEqual(shop.sheet(), [[WORN] * 3 for pick in range(tall)])
            self.refuse(NothingLeft, shop.undo)

    def test_one_and_eight_tablets(self):
        for wide in (1, 8):
            shop = Workshop([DRAFT[0]] * wide, 2, 0)
            shop.spot(1, wide - 1, "slant", "s")
            self.assertEqual(shop.sheet()[1], [WORN] * (wide - 1) + [("?", "?", "s")])
            self.refuse(BadMark, shop.spot, 1, wide, "slant", "s")
            self.refuse(NoTablet, shop.exchange, wide, OTHER)

    def test_spot_and_wear(self):
        shop = Workshop(DRAFT, 2, 1)
        self.assertIsNone(shop.spot(0, 1, "face", "a"))
        self.assertIsNone(shop.spot(1, 2, "slant", "s"))
        self.assertEqual(shop.sheet(), [[WORN, ("a", "?", "?"), WORN], [WORN, WORN, ("?", "?", "s")]])
        self.assertIsNone(shop.wear(0, 1, "face"))
        self.assertEqual(shop.sheet(), [[WORN, WORN, WORN], [WORN, WORN, ("?", "?", "s")]])

    def test_exchange(self):
        shop = Workshop(DRAFT, 2, 1)
        for k in range(3):
            self.assertIsNone(shop.exchange(k, OTHER))
            self.assertEqual(shop.draft_now(), [OTHER] * (k + 1) + DRAFT[k + 1:])

    def test_exchanged_tablets_stand_ahead_of_all_picks(self):
        shop = spotted([("S", "abcd", 0)], ["f", "f", "i"], 1)
        shop.exchange(0, ("S", "abcd", 1))
        self.assertEqual(shop.draft_now(), [("S", "abcd", 1)])
        self.assertEqual(shop.outcome()[0], "barred")
        shop.exchange(0, ("Z", "adcb", 0))
        self.assertEqual(shop.outcome()[:2], ("rows", ["b", "b", "i"]))
        self.assertEqual(shop.onto({colour: 99 for colour in "abcd"}).tablets(), [("Z", "adcb", 2)])

    def test_each_deed_and_its_undoing(self):
        shop = Workshop(DRAFT, 3, 1)
        deeds = [
            (shop.spot, 0, 0, "face", "b"), (shop.spot, 0, 0, "face", "c"), (shop.spot, 2, 2, "slant", "o"),
            (shop.exchange, 1, OTHER), (shop.wear, 0, 0, "face"), (shop.wear, 0, 0, "face"),
            (shop.exchange, 1, ("S", "abab", 0)), (shop.exchange, 0, OTHER), (shop.spot, 1, 1, "back", "b"),
            (shop.spot, 1, 1, "back", "b"), (shop.exchange, 0, OTHER), (shop.wear, 2, 2, "slant"),
        ]
        for turn in range(2):
            course = []
            for deed, *more in deeds:
                course.append(asked(shop))
                self.assertIsNone(deed(*more))
            for ahead in reversed(course):
                self.assertIsNone(shop.undo())
                self.assertEqual(asked(shop), ahead)
            self.refuse(NothingLeft, shop.undo)

    def test_a_deed_that_changes_nothing_is_a_deed(self):
        shop = Workshop(DRAFT, 1, 1)
        shop.spot(0, 0, "face", "b")
        shop.spot(0, 0, "face", "b")
        shop.wear(0, 1, "back")
        shop.exchange(2, DRAFT[2])
        for many in range(3):
            shop.undo()
            self.assertEqual(shop.sheet()[0][0], ("b", "?", "?"))
        shop.undo()
        self.assertEqual(shop.sheet(), [[WORN] * 3])
        self.refuse(NothingLeft, shop.undo)

    def test_a_new_deed_behind_an_undoing(self):
        shop = Workshop(DRAFT, 1, 1)
        shop.spot(0, 0, "face", "b")
        shop.exchange(1, OTHER)
        shop.undo()
        shop.spot(0, 2, "back", "a")
        shop.undo()
        self.assertEqual((shop.draft_now(), shop.sheet()), (DRAFT, [[("b", "?", "?"), WORN, WORN]]))
        shop.undo()
        self.refuse(NothingLeft, shop.undo)

    def test_a_refused_one_is_no_deed(self):
        shop = Workshop(DRAFT, 2, 1)
        shop.spot(0, 0, "face", "b")
        for pick, k, side in ((2, 0, "face"), (-1, 0, "face"), (0, 3, "face"), (0, -1, "face"), (0, 0, "top"),
                              (9, 9, "")):
            self.refuse(BadMark, shop.spot, pick, k, side, "a")
            self.refuse(BadMark, shop.wear, pick, k, side)
        for side, sign in (("face", "?"), ("face", "A"), ("face", ""), ("face", "ab"), ("slant", "a"), ("slant", "sz")):
            self.refuse(BadMark, shop.spot, 0, 0, side, sign)
        for k in (-1, 3, 10 ** 30):
            self.refuse(NoTablet, shop.exchange, k, OTHER)
        shop.undo()
        self.refuse(NothingLeft, shop.undo)

    def test_no_such_tablet(self):
        shop = Workshop(DRAFT, 2, 1)
        for k in (-1, -3, 3, 4, 8, 10 ** 30, -10 ** 30):
            self.refuse(NoTablet, shop.exchange, k, OTHER)
            self.refuse(NoTablet, shop.restoring, k)
            self.refuse(BadMark, shop.spot, 0, k, "face", "a")
            self.refuse(BadMark, shop.wear, 0, k, "face")
        shop = Workshop(DRAFT, 0, 1)
        self.refuse(NoTablet, shop.exchange, 3, OTHER)
        self.refuse(NoTablet, shop.restoring, 3)
        self.refuse(BadMark, shop.spot, 0, 0, "face", "a")

    def test_the_draft_handed_in_stays_and_may_be_changed(self):
        draft = list(DRAFT)
        shop = Workshop(draft, 2, 1)
        shop.exchange(0, OTHER)
        self.assertEqual(draft, DRAFT)
        ahead = asked(shop)
        draft[1] = OTHER
        draft.append(OTHER)
        self.assertEqual(asked(shop), ahead)
        shop.undo()
        self.assertEqual(shop.draft_now(), DRAFT)

    def test_what_is_told_may_be_changed(self):
        for shop in (spotted(DRAFT, ["ffb", "fib"], 1, 2), barred(DRAFT, 2, 1, 0), barred(DRAFT, 2, 1, 2)):
            ahead = copy.deepcopy(asked(shop))
            shop.draft_now()[0] = OTHER
            shop.draft_now().clear()
            shop.sheet()[0][0] = ("q", "q", "o")
            shop.sheet()[1].clear()
            shop.sheet().clear()
            for k in range(3):
                for states in shop.restoring(k)[2]:
                    states.append((9, 9))
                shop.restoring(k)[2].clear()
            if shop.outcome()[0] == "rows":
                shop.outcome()[1].clear()
                needed = shop.need()
                shop.need().clear()
                self.assertEqual(shop.need(), needed)
            shop.outcome()[2].clear()
            self.assertEqual(asked(shop), ahead)

    def test_what_was_told_stays(self):
        shop = Workshop(DRAFT, 2, 1)
        answers = asked(shop)
        ahead = copy.deepcopy(answers)
        shop.spot(0, 0, "face", "b")
        shop.exchange(0, OTHER)
        self.assertEqual(answers, ahead)

    def test_two_workshops_of_one_draft(self):
        one, other = Workshop(DRAFT, 2, 1), Workshop(DRAFT, 2, 1)
        ahead = asked(other)
        one.spot(0, 0, "face", "b")
        one.exchange(1, OTHER)
        self.assertEqual(asked(other), ahead)
        self.refuse(NothingLeft, other.undo)


class Restorings(ShopCase):
    def right(self, shop, loose):
        draft, sheet = shop.draft_now(), shop.sheet()
        for k, tablet in enumerate(draft):
            strip = [pick[k] for pick in sheet]
            triple = shop.restoring(k)
            self.assertEqual(triple, restore(tablet, strip, loose))
            self.assertIs(type(triple), tuple)
            self.assertIs(settled(tablet, strip, loose, triple), True)

    def test_behind_each_kind_of_deed_and_its_undoing(self):
        for loose in range(4):
            shop = Workshop(DRAFT, 3, loose)
            self.right(shop, loose)
            deeds = [(shop.spot, 0, 0, "face", "b"), (shop.spot, 1, 1, "slant", "z"), (shop.spot, 2, 1, "slant", "z"),
                     (shop.exchange, 1, OTHER), (shop.wear, 1, 1, "slant"), (shop.spot, 2, 2, "back", "q"),
                     (shop.exchange, 0, ("Z", "bbbb", 1))]
            for deed, *more in deeds:
                deed(*more)
                self.right(shop, loose)
            for deed in deeds:
                shop.undo()
                self.right(shop, loose)

    def test_the_strip_of_the_tablet_alone(self):
        shop = Workshop([("S", "abcd", 0)] * 3, 1, 1)
        shop.spot(0, 1, "slant", "s")
        self.assertEqual([shop.restoring(k)[:2] for k in range(3)], [(0, "i"), (1, "f"), (0, "i")])


class Outcome(ShopCase):
    def test_rows(self):
        shop = spotted(DRAFT, ["ffb", "fib", "bbi"], 1)
        outcome = shop.outcome()
        self.assertEqual(outcome, ("rows", ["ffb", "fib", "bbi"], [2, 1, 2]))
        self.assertEqual([type(outcome), type(outcome[1]), type(outcome[2])], [tuple, list, list])

    def test_the_restorings_columns_and_bounds(self):
        for loose, step in itertools.product(range(4), (1, 2, 3, 4, 5, 7)):
            plan = ["ffb", "fib", "bbi", "bff", "fbf", "iib"]
            shop = spotted(DRAFT, plan, loose, step)
            word, what, more = shop.outcome()
            triples = [shop.restoring(k) for k in range(3)]
            if None in [triple[0] for triple in triples]:
                k = [triple[0] for triple in triples].index(None)
                self.assertEqual((word, what, more), ("barred", k, triples[k][2]))
                continue
            self.assertEqual(word, "rows")
            self.assertEqual([column(what, k) for k in range(3)], [triple[1] for triple in triples])
            self.assertEqual(more, [triple[0] for triple in triples])
            self.assertIsNone(parting(woven(DRAFT, what), shop.sheet()))
            self.assertTrue(all(peak <= bound for peak, bound in zip(peaks(DRAFT, what), more)))

    def test_no_picks(self):
        shop = Workshop(DRAFT, 0, 1)
        self.assertEqual(shop.outcome(), ("rows", [], [0, 0, 0]))
        self.assertEqual(shop.need(), [])
        loom = shop.onto({})
        self.assertEqual(told(loom), told(Loom(DRAFT, 0, {})))

    def test_barred_with_the_first_tablet(self):
        for first in range(3):
            shop = barred(DRAFT, 2, 1, first)
            for k in range(first + 1, 3):
                shop.spot(0, k, "face", "q")
            outcome = shop.outcome()
            self.assertEqual(outcome, ("barred", first, shop.restoring(first)[2]))
            self.assertEqual([type(outcome), type(outcome[2]), type(outcome[2][0])], [tuple, list, list])
            self.assertEqual(outcome[2][-1], [])
            for k in range(first, 3):
                shop.undo()
            self.assertEqual(shop.outcome()[0], "rows")

    def test_barred_no_more_behind_an_exchange(self):
        shop = barred(DRAFT, 2, 1, 1)
        self.assertEqual(shop.outcome()[:2], ("barred", 1))
        shop.exchange(1, ("S", "qqqq", 0))
        self.assertEqual(shop.outcome()[0], "rows")
        shop.undo()
        self.assertEqual(shop.outcome()[:2], ("barred", 1))

    def test_60_picks_of_eight_tablets(self):
        shop = Workshop([("S", "abcd", 0), ("Z", "aabb", 1)] * 4, 60, 0)
        self.assertEqual(shop.outcome(), ("rows", ["f" * 8, "b" * 8] * 30, [1] * 8))
        self.assertEqual(shop.need(), [("a", 60 * 2 * (4 + 8)), ("b", 60 * 2 * (4 + 8)), ("c", 480), ("d", 480)])


class Need(ShopCase):
    def plain_shop(self):
        return spotted(DRAFT, ["ffb", "fib", "bbi"], 1)

    def wanted(self):
        # Tablet 0 turns three times, tablet 1 twice, tablet 2 twice; each is idle else.
        return [("a", 6 + 2 * 5 + 3 * 5), ("b", 6 + 2 * 5 + 5), ("c", 6), ("d", 6)]

    def test_the_need(self):
        needed = self.plain_shop().need()
        self.assertEqual(needed, self.wanted())
        self.assertEqual([type(needed)] + [type(pair) for pair in needed], [list] + [tuple] * 4)

    def test_by_rising_colour(self):
        shop = Workshop([("S", "zmaz", 0)], 1, 1)
        self.assertEqual(shop.need(), [("a", 1), ("m", 1), ("z", 2)])
        shop.spot(0, 0, "slant", "s")
        self.assertEqual(shop.need(), [("a", 2), ("m", 2), ("z", 4)])
        shop.exchange(0, ("Z", "bbbb", 0))
        self.assertEqual(shop.need(), [("b", 8)])

    def test_a_loom_with_just_the_need(self):
        shop = self.plain_shop()
        loom = shop.onto(dict(shop.need()))
        self.assertIsInstance(loom, Loom)
        self.assertEqual([loom.rest(colour) for colour in COLOURS], [0] * 26)
        other = Loom(DRAFT, 2, dict(shop.need()))
        for row in ("ffb", "fib", "bbi"):
            other.weave(row)
        self.assertEqual(loom_asked(loom), loom_asked(other))
        self.assertEqual(told(loom), told(other))

    def test_one_short_of_one_colour(self):
        shop = self.plain_shop()
        for colour, length in shop.need():
            spools = dict(shop.need())
            spools[colour] = length - 1
            self.refuse(SpoolDry, shop.onto, spools)
            del spools[colour]
            self.refuse(SpoolDry, shop.onto, spools)
        self.refuse(SpoolDry, shop.onto, {})

    def test_the_loom_s_greatest_twist(self):
        plenty = {colour: 1000 for colour in "abcd"}
        shop = Workshop([("S", "abcd", 0), ("Z", "abcd", 0)], 3, 3)
        self.assertEqual(told(shop.onto(plenty)).split("\n")[0], "loom 0")
        for pick in range(3):
            shop.spot(pick, 1, "slant", "z")
        loom = shop.onto(plenty)
        self.assertEqual(told(loom).split("\n")[0], "loom 3")
        self.assertEqual((loom.peak(0), loom.peak(1), loom.twist(1)), (0, 3, -3))

    def test_each_row_a_deed(self):
        shop = self.plain_shop()
        loom = shop.onto({colour: 1000 for colour in "abcd"})
        self.assertEqual(loom.deeds(), [("row", "ffb"), ("row", "fib"), ("row", "bbi")])
        self.assertEqual(loom.band(), woven(DRAFT, ["ffb", "fib", "bbi"]))
        with self.assertRaises(NothingLeft):
            loom.redo()
        self.assertEqual([loom.undo() for many in range(3)], [("row", "bbi"), ("row", "fib"), ("row", "ffb")])
        with self.assertRaises(NothingLeft):
            loom.undo()
        self.assertEqual(loom.tablets(), DRAFT)

    def test_barred(self):
        for k in range(3):
            shop = barred(DRAFT, 2, 1, k)
            self.refuse(Barred, shop.need)
            self.refuse(Barred, shop.onto, {})
            self.refuse(Barred, shop.onto, {colour: 1000 for colour in COLOURS})
            shop.undo()
            shop.need()
            self.refuse(SpoolDry, shop.onto, {})

    def test_the_spools_are_unchanged_and_may_be_changed(self):
        shop = self.plain_shop()
        spools = {colour: 100 for colour in "abcdz"}
        loom = shop.onto(spools)
        self.assertEqual(spools, {colour: 100 for colour in "abcdz"})
        text, answers = told(loom), loom_asked(loom)
        spools.clear()
        self.assertEqual((told(loom), loom_asked(loom)), (text, answers))

    def test_looms_and_workshop_are_apart(self):
        shop = self.plain_shop()
        spools = {colour: 100 for colour in "abcd"}
        one, other = shop.onto(spools), shop.onto(spools)
        ahead, text = asked(shop), told(other)
        one.undo()
        one.flip(0)
        self.assertEqual(asked(shop), ahead)
        self.assertEqual(told(other), text)
        shop.exchange(0, OTHER)
        shop.wear(0, 0, "face")
        self.assertEqual(told(other), text)


if __name__ == "__main__":
    unittest.main()
