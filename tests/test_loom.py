"""The loom: points 25 and 26, points 4, 5 and 10 as far as it uses them, and point 1 for it."""

import copy
import itertools
import unittest

from tests.helpers import COLOURS, loom_asked as asked
from wornband.bands import peaks, twists, woven
from wornband.errors import BadRow, NoTablet, NothingLeft, SpoolDry, TooLong, TooTight
from wornband.loom import Loom
from wornband.tablets import flipped

DRAFT = [("S", "abcd", 0), ("Z", "aabb", 1), ("S", "aaaa", 3)]
PLENTY = {colour: 999999999 for colour in COLOURS}


class LoomCase(unittest.TestCase):
    def refuse(self, error, deed, *more):
        """A refusal, of just this kind, that changes nothing."""
        loom = deed.__self__
        ahead = asked(loom)
        with self.subTest(deed=deed.__name__, more=more):
            with self.assertRaises(error) as caught:
                deed(*more)
            self.assertIs(type(caught.exception), error)
            self.assertEqual(asked(loom), ahead)


class Start(LoomCase):
    def test_a_new_loom(self):
        loom = Loom(DRAFT, 5, {"a": 7, "z": 0})
        self.assertEqual(loom.tablets(), DRAFT)
        self.assertEqual((loom.band(), loom.deeds()), ([], []))
        for k in range(3):
            self.assertEqual((loom.twist(k), loom.peak(k)), (0, 0))
        self.assertEqual([loom.rest(colour) for colour in "abz"], [7, 0, 0])

    def test_one_and_eight_tablets(self):
        for wide in (1, 8):
            loom = Loom([("S", "abcd", 0)] * wide, 1, PLENTY)
            self.assertEqual(loom.weave("f" * wide), [("b", "d", "s")] * wide)
            self.assertEqual(loom.rest("a"), 999999999 - 2 * wide)


class Weave(LoomCase):
    def test_the_pick_woven(self):
        loom = Loom(DRAFT, 9, PLENTY)
        pick = loom.weave("ffb")
        self.assertEqual(pick, [("b", "d", "s"), ("b", "a", "z"), ("a", "a", "z")])
        self.assertIs(type(pick), list)
        self.assertEqual([type(place) for place in pick], [tuple] * 3)
        self.assertEqual(loom.weave("ibi"), [("b", "d", "o"), ("a", "b", "s"), ("a", "a", "o")])
        self.assertEqual(loom.tablets(), [("S", "abcd", 1), ("Z", "aabb", 1), ("S", "aaaa", 2)])
        self.assertEqual(loom.deeds(), [("row", "ffb"), ("row", "ibi")])

    def test_the_same_as_a_band(self):
        plan = ["".join(row) for row in itertools.product("fbi", repeat=3)] * 2
        loom = Loom(DRAFT, 99, PLENTY)
        self.assertEqual([loom.weave(row) for row in plan], woven(DRAFT, plan))
        self.assertEqual(loom.band(), woven(DRAFT, plan))
        self.assertEqual([loom.twist(k) for k in range(3)], twists(DRAFT, plan))
        self.assertEqual([loom.peak(k) for k in range(3)], peaks(DRAFT, plan))

    def test_twist_and_peak(self):
        loom = Loom(DRAFT, 9, PLENTY)
        for row in ("fff", "ffb", "bbb", "bbi", "bfb"):
            loom.weave(row)
        self.assertEqual([loom.twist(k) for k in range(3)], [-1, -1, -2])
        self.assertEqual([loom.peak(k) for k in range(3)], [2, 2, 2])

    def test_lengths(self):
        loom = Loom(DRAFT, 9, {"a": 100, "b": 100, "c": 100, "d": 100, "e": 100})
        loom.weave("fff")
        self.assertEqual([loom.rest(colour) for colour in "abcdef"], [86, 94, 98, 98, 100, 0])
        loom.weave("iii")
        self.assertEqual([loom.rest(colour) for colour in "abcdef"], [79, 91, 97, 97, 100, 0])
        loom.weave("ibf")
        self.assertEqual([loom.rest(colour) for colour in "abcdef"], [66, 86, 96, 96, 100, 0])

    def test_bad_rows(self):
        loom = Loom(DRAFT, 9, PLENTY)
        loom.weave("fib")
        for row in ("", "f", "ff", "ffff", "ffx", "FFF", "ff ", " ff", "f f", "fff\n", "\nff", "fbo", "???", "*f",
                    "f" * 300):
            self.refuse(BadRow, loom.weave, row)

    def test_too_tight(self):
        loom = Loom(DRAFT, 2, PLENTY)
        loom.weave("ffi")
        loom.weave("ffi")
        for row in ("fii", "ifi", "ffi", "fbi", "bfb", "fff"):
            self.refuse(TooTight, loom.weave, row)
        loom.weave("bbf")
        self.assertEqual([loom.twist(k) for k in range(3)], [1, -1, 1])
        self.assertEqual([loom.peak(k) for k in range(3)], [2, 2, 1])

    def test_a_greatest_twist_of_nought(self):
        for lay in "SZ":
            loom = Loom([(lay, "abcd", 0)], 0, PLENTY)
            self.refuse(TooTight, loom.weave, "f")
            self.refuse(TooTight, loom.weave, "b")
            self.assertEqual(loom.weave("i"), [("a", "c", "o")])
            self.assertEqual((loom.twist(0), loom.peak(0)), (0, 0))

    def test_a_spool_that_lasts_just(self):
        loom = Loom([("S", "abcd", 0)], 9, {"a": 3, "b": 3, "c": 3, "d": 3})
        loom.weave("f")
        self.refuse(SpoolDry, loom.weave, "f")
        self.refuse(SpoolDry, loom.weave, "b")
        loom.weave("i")
        self.assertEqual([loom.rest(colour) for colour in "abcd"], [0] * 4)
        for row in "fbi":
            self.refuse(SpoolDry, loom.weave, row)

    def test_each_spool_one_short(self):
        draft = [("S", "abcd", 0), ("Z", "dcba", 1)]
        for row, many in (("ff", 4), ("fi", 3), ("ib", 3), ("ii", 2)):
            Loom(draft, 9, {colour: many for colour in "abcd"}).weave(row)
            for short in "abcd":
                loom = Loom(draft, 9, {colour: many - (colour == short) for colour in "abcd"})
                self.refuse(SpoolDry, loom.weave, row)

    def test_several_threads_of_one_colour(self):
        self.assertEqual(Loom([("S", "aaaa", 0)], 9, {"a": 8}).weave("f"), [("a", "a", "s")])
        self.refuse(SpoolDry, Loom([("S", "aaaa", 0)], 9, {"a": 7}).weave, "f")
        Loom([("S", "aaaa", 0)], 9, {"a": 4}).weave("i")
        self.refuse(SpoolDry, Loom([("S", "aaaa", 0)], 9, {"a": 3}).weave, "i")
        draft = [("S", "aaab", 0)] * 8
        Loom(draft, 9, {"a": 48, "b": 16}).weave("fbfbfbfb")
        self.refuse(SpoolDry, Loom(draft, 9, {"a": 47, "b": 16}).weave, "fbfbfbfb")
        self.refuse(SpoolDry, Loom(draft, 9, {"a": 48, "b": 15}).weave, "fbfbfbfb")

    def test_a_colour_without_a_spool(self):
        for spools in ({}, {"a": 9, "b": 9, "c": 9}, {"a": 9, "b": 9, "c": 9, "e": 9}, {"d": 99}):
            loom = Loom([("S", "abcd", 0)], 9, spools)
            for row in "fbi":
                self.refuse(SpoolDry, loom.weave, row)
            self.assertEqual(loom.rest("q"), 0)

    def test_the_refusals_in_their_order(self):
        for most, spools in ((0, {}), (0, PLENTY), (9, {}), (9, PLENTY)):
            loom = Loom(DRAFT, most, spools)
            for row in ("", "ff", "ffff", "ffx"):
                self.refuse(BadRow, loom.weave, row)
            wanted = TooTight if most == 0 else SpoolDry if not spools else None
            if wanted is not None:
                self.refuse(wanted, loom.weave, "iif")
        loom = Loom(DRAFT, 0, {"a": 1})
        self.refuse(SpoolDry, loom.weave, "iii")
        self.refuse(TooTight, loom.weave, "iib")

    def test_nothing_handed_in_is_changed(self):
        draft, spools = list(DRAFT), {"a": 100, "b": 100, "c": 100, "d": 100}
        loom = Loom(draft, 9, spools)
        loom.weave("fff")
        loom.flip(1)
        self.assertEqual((draft, spools), (DRAFT, {"a": 100, "b": 100, "c": 100, "d": 100}))

    def test_what_was_handed_in_may_be_changed(self):
        draft, spools = list(DRAFT), dict(PLENTY)
        loom, other = Loom(draft, 9, spools), Loom(DRAFT, 9, PLENTY)
        draft[0] = ("Z", "zzzz", 0)
        draft.append(("Z", "zzzz", 0))
        spools.clear()
        self.assertEqual(asked(loom), asked(other))
        self.assertEqual(loom.weave("ffb"), other.weave("ffb"))
        draft.clear()
        self.assertEqual(asked(loom), asked(other))
        loom.undo()
        self.assertEqual(loom.tablets(), DRAFT)

    def test_what_is_told_may_be_changed(self):
        loom, other = Loom(DRAFT, 9, PLENTY), Loom(DRAFT, 9, PLENTY)
        for row in ("ffb", "fib"):
            other.weave(row)
            loom.weave(row).clear()
        loom.tablets().clear()
        loom.tablets()[0] = ("Z", "zzzz", 0)
        loom.band()[0].clear()
        loom.band()[1][0] = ("z", "z", "o")
        loom.band().clear()
        loom.deeds().clear()
        self.assertEqual(asked(loom), asked(other))
        loom.undo()
        other.undo()
        self.assertEqual(asked(loom), asked(other))

    def test_what_was_told_stays(self):
        loom = Loom(DRAFT, 9, PLENTY)
        told = asked(loom)
        ahead = copy.deepcopy(told)
        loom.weave("fff")
        loom.flip(0)
        self.assertEqual(told, ahead)

    def test_two_looms_of_one_draft(self):
        one, other = Loom(DRAFT, 9, PLENTY), Loom(DRAFT, 9, PLENTY)
        ahead = asked(other)
        one.weave("fff")
        one.flip(2)
        one.undo()
        self.assertEqual(asked(other), ahead)
        self.refuse(NothingLeft, other.undo)
        self.refuse(NothingLeft, other.redo)

    def test_kinds(self):
        loom = Loom(DRAFT, 9, PLENTY)
        loom.weave("fff")
        loom.flip(0)
        for told in (loom.tablets(), loom.band(), loom.band()[0], loom.deeds()):
            self.assertIs(type(told), list)
        for told in loom.tablets() + loom.band()[0] + loom.deeds():
            self.assertIs(type(told), tuple)
        for told in (loom.twist(0), loom.peak(0), loom.rest("a")):
            self.assertIs(type(told), int)


class Flip(LoomCase):
    def test_a_flip(self):
        loom = Loom(DRAFT, 9, {"a": 5})
        for k in range(3):
            self.assertIsNone(loom.flip(k))
            self.assertEqual(loom.tablets(), [flipped(tablet) for tablet in DRAFT[:k + 1]] + DRAFT[k + 1:])
        self.assertEqual(loom.deeds(), [("flip", 0), ("flip", 1), ("flip", 2)])
        self.assertEqual((loom.band(), loom.rest("a")), ([], 5))

    def test_the_twist_stays(self):
        loom = Loom([("S", "abcd", 0)], 9, PLENTY)
        for row in "fff":
            loom.weave(row)
        loom.flip(0)
        self.assertEqual(loom.tablets(), [("Z", "adcb", 1)])
        self.assertEqual((loom.twist(0), loom.peak(0)), (3, 3))
        self.assertEqual(loom.weave("b"), [("a", "c", "s")])
        self.assertEqual((loom.twist(0), loom.peak(0)), (4, 4))
        for row in "ffff":
            loom.weave(row)
        self.assertEqual((loom.twist(0), loom.peak(0)), (0, 4))
        loom.flip(0)
        self.assertEqual((loom.twist(0), loom.peak(0)), (0, 4))

    def test_peak_over_flips(self):
        loom = Loom([("S", "abcd", 0)], 9, PLENTY)
        loom.weave("b")
        loom.flip(0)
        loom.weave("f")
        loom.flip(0)
        loom.weave("b")
        self.assertEqual((loom.twist(0), loom.peak(0)), (-3, 3))

    def test_the_greatest_twist_over_flips(self):
        loom = Loom([("S", "abcd", 0)], 1, PLENTY)
        loom.weave("f")
        self.refuse(TooTight, loom.weave, "f")
        loom.flip(0)
        self.refuse(TooTight, loom.weave, "b")
        loom.weave("f")
        self.assertEqual(loom.twist(0), 0)

    def test_no_such_tablet(self):
        loom = Loom(DRAFT, 9, PLENTY)
        loom.weave("fff")
        for k in (-1, -3, 3, 4, 8, 10 ** 30, -10 ** 30):
            self.refuse(NoTablet, loom.flip, k)

    def test_the_same_threads_are_on_top(self):
        loom = Loom(DRAFT, 9, PLENTY)
        first = loom.weave("iii")
        for k in range(3):
            loom.flip(k)
        self.assertEqual(loom.weave("iii"), first)


class Undo(LoomCase):
    def deeds(self):
        return [("row", "ffb"), ("flip", 0), ("row", "fii"), ("flip", 2), ("flip", 2), ("row", "bbb"), ("row", "iii")]

    def do(self, loom, deed):
        loom.weave(deed[1]) if deed[0] == "row" else loom.flip(deed[1])

    def test_to_the_very_start_and_back(self):
        loom = Loom(DRAFT, 9, PLENTY)
        course = [asked(loom)]
        for deed in self.deeds():
            self.do(loom, deed)
            course.append(asked(loom))
        for turn in range(2):
            for at, deed in reversed(list(enumerate(self.deeds()))):
                self.assertEqual(loom.undo(), deed)
                self.assertEqual(asked(loom), course[at])
            self.refuse(NothingLeft, loom.undo)
            for at, deed in enumerate(self.deeds()):
                self.assertEqual(loom.redo(), deed)
                self.assertEqual(asked(loom), course[at + 1])
            self.refuse(NothingLeft, loom.redo)

    def test_the_deed_told_is_a_tuple(self):
        loom = Loom(DRAFT, 9, PLENTY)
        loom.weave("fff")
        self.assertIs(type(loom.undo()), tuple)
        self.assertIs(type(loom.redo()), tuple)

    def test_nothing_left_at_first(self):
        loom = Loom(DRAFT, 9, PLENTY)
        self.refuse(NothingLeft, loom.undo)
        self.refuse(NothingLeft, loom.redo)
        loom.weave("fff")
        self.refuse(NothingLeft, loom.redo)

    def test_a_new_deed_behind_an_undoing(self):
        for deed in (("row", "ffb"), ("row", "iii"), ("flip", 0)):
            loom = Loom(DRAFT, 9, PLENTY)
            for row in ("fff", "ffb", "iii"):
                loom.weave(row)
            loom.undo()
            loom.undo()
            self.do(loom, deed)
            self.refuse(NothingLeft, loom.redo)
            self.assertEqual(loom.deeds(), [("row", "fff"), deed])
            self.assertEqual(loom.undo(), deed)
            self.assertEqual(loom.redo(), deed)
            self.refuse(NothingLeft, loom.redo)

    def test_some_undone_and_some_redone(self):
        loom = Loom(DRAFT, 9, PLENTY)
        for row in ("fff", "bbb", "iii"):
            loom.weave(row)
        self.assertEqual([loom.undo(), loom.undo(), loom.redo()], [("row", "iii"), ("row", "bbb"), ("row", "bbb")])
        self.assertEqual(loom.deeds(), [("row", "fff"), ("row", "bbb")])
        self.assertEqual([loom.undo(), loom.undo()], [("row", "bbb"), ("row", "fff")])
        self.assertEqual([loom.redo(), loom.redo(), loom.redo()], [("row", "fff"), ("row", "bbb"), ("row", "iii")])

    def test_a_refused_deed_keeps_what_may_be_redone(self):
        loom = Loom(DRAFT, 1, PLENTY)
        loom.weave("fff")
        loom.flip(1)
        loom.undo()
        self.refuse(BadRow, loom.weave, "ff")
        self.refuse(TooTight, loom.weave, "fii")
        self.refuse(NoTablet, loom.flip, 3)
        self.refuse(TooLong, loom.follow, [("times", 99, [("times", 99, [("all", "i")])])])
        self.refuse(BadRow, loom.follow, [("row", "f")])
        self.refuse(TooTight, loom.follow, [("all", "b"), ("all", "f"), ("row", "fii")])
        self.assertEqual(loom.redo(), ("flip", 1))

    def test_a_dry_spool_keeps_what_may_be_redone(self):
        loom = Loom([("S", "abcd", 0)], 9, {"a": 3, "b": 3, "c": 3, "d": 3})
        loom.weave("f")
        loom.weave("i")
        loom.undo()
        self.refuse(SpoolDry, loom.weave, "f")
        self.refuse(SpoolDry, loom.follow, [("row", "i"), ("row", "i")])
        self.assertEqual(loom.redo(), ("row", "i"))

    def test_what_was_taken_is_on_the_spool_again(self):
        loom = Loom([("S", "abcd", 0)], 1, {"a": 2, "b": 2, "c": 2, "d": 2})
        for row in "fbfbf":
            loom.weave(row)
            self.assertEqual(loom.rest("a"), 0)
            loom.undo()
            self.assertEqual(loom.rest("a"), 2)

    def test_many_deeds(self):
        loom = Loom([("S", "abcd", 0)], 1, PLENTY)
        for many in range(500):
            loom.weave("f")
            loom.weave("b")
            loom.flip(0)
        self.assertEqual(len(loom.deeds()), 1500)
        for many in range(1500):
            loom.undo()
        self.assertEqual(asked(loom), asked(Loom([("S", "abcd", 0)], 1, PLENTY)))
        for many in range(1500):
            loom.redo()
        self.assertEqual(len(loom.band()), 1000)


class Follow(LoomCase):
    def test_a_program(self):
        loom = Loom(DRAFT, 9, PLENTY)
        other = Loom(DRAFT, 9, PLENTY)
        program = [("row", "ffb"), ("times", 2, [("all", "b"), ("mirror", [("row", "fib")])])]
        self.assertEqual(loom.follow(program), 7)
        for row in ("ffb", "bbb", "fib", "bif", "bbb", "fib", "bif"):
            other.weave(row)
        self.assertEqual(asked(loom), asked(other))
        self.assertEqual([loom.undo() for many in range(7)], [other.undo() for many in range(7)])
        self.refuse(NothingLeft, loom.undo)

    def test_behind_other_deeds(self):
        loom = Loom(DRAFT, 9, PLENTY)
        loom.weave("fff")
        loom.flip(1)
        self.assertEqual(loom.follow([("all", "f")]), 1)
        self.assertEqual(loom.deeds(), [("row", "fff"), ("flip", 1), ("row", "fff")])
        self.assertEqual(loom.twist(1), 0)

    def test_without_rows(self):
        for program in ([], [("times", 0, [("row", "fff")])], [("mirror", [])], [("times", 5, [("times", 0, [])])]):
            loom = Loom(DRAFT, 9, PLENTY)
            loom.weave("fff")
            loom.weave("iii")
            loom.undo()
            ahead = asked(loom)
            self.assertEqual(loom.follow(program), 0)
            self.assertEqual(asked(loom), ahead)
            self.assertEqual(loom.redo(), ("row", "iii"))

    def test_behind_an_undoing(self):
        loom = Loom(DRAFT, 9, PLENTY)
        loom.weave("fff")
        loom.undo()
        loom.follow([("all", "i"), ("all", "f")])
        self.refuse(NothingLeft, loom.redo)
        self.assertEqual([loom.undo(), loom.undo()], [("row", "fff"), ("row", "iii")])
        self.assertEqual([loom.redo(), loom.redo()], [("row", "iii"), ("row", "fff")])

    def test_240_rows(self):
        loom = Loom(DRAFT, 120, PLENTY)
        self.assertEqual(loom.follow([("mirror", [("times", 60, [("all", "f"), ("row", "fbi")])])]), 240)
        self.assertEqual(len(loom.deeds()), 240)
        self.assertEqual([loom.twist(k) for k in range(3)], [0, 0, 0])
        self.assertEqual(loom.peak(0), 120)
        self.refuse(TooLong, loom.follow, [("mirror", [("times", 60, [("all", "f"), ("all", "i")])]), ("all", "i")])

    def test_refused_by_its_length(self):
        loom = Loom(DRAFT, 9, PLENTY)
        loom.weave("fff")
        deep = [("all", "i")]
        for many in range(7):
            deep = [("times", 99, deep)]
        self.refuse(TooLong, loom.follow, deep)
        self.refuse(TooLong, loom.follow, [("row", "f")] * 241)
        self.refuse(TooLong, loom.follow, [("all", "f")] * 241)

    def test_refused_by_a_bad_row(self):
        loom = Loom(DRAFT, 0, {})
        for bad in ("", "ff", "ffff", "ffx"):
            self.refuse(BadRow, loom.follow, [("row", bad)])
            self.refuse(BadRow, loom.follow, [("all", "f"), ("row", bad)])
            self.refuse(BadRow, loom.follow, [("all", "f"), ("times", 0, [("mirror", [("row", bad)])])])

    def test_refused_by_its_first_row_that_cannot_be_woven(self):
        spools = {"a": 21, "b": 100, "c": 100, "d": 100}
        loom = Loom(DRAFT, 1, spools)
        self.refuse(TooTight, loom.follow, [("all", "f"), ("all", "f"), ("all", "b"), ("all", "b")])
        self.refuse(SpoolDry, loom.follow, [("all", "f"), ("all", "b"), ("all", "f"), ("all", "f")])
        self.refuse(SpoolDry, loom.follow, [("all", "f"), ("all", "i"), ("all", "b"), ("all", "b"), ("all", "b")])
        self.refuse(TooTight, loom.follow, [("all", "i"), ("all", "f"), ("all", "f"), ("all", "i"), ("all", "i")])
        self.assertEqual(loom.follow([("all", "f"), ("all", "i")]), 2)
        self.assertEqual(loom.rest("a"), 0)

    def test_just_as_far_as_it_goes(self):
        loom = Loom([("S", "abcd", 0)], 3, {"a": 6, "b": 6, "c": 6, "d": 6})
        self.assertEqual(loom.follow([("times", 3, [("row", "f")])]), 3)
        self.refuse(TooTight, loom.follow, [("row", "f")])
        self.refuse(SpoolDry, loom.follow, [("row", "b")])

    def test_the_program_is_unchanged(self):
        program = [("row", "ffb"), ("times", 2, [("all", "b"), ("mirror", [("row", "fib")])])]
        ahead = copy.deepcopy(program)
        loom = Loom(DRAFT, 9, PLENTY)
        loom.follow(program)
        self.assertEqual(program, ahead)
        told = asked(loom)
        program[1][2].clear()
        self.assertEqual(asked(loom), told)


if __name__ == "__main__":
    unittest.main()
