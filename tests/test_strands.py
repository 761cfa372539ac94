"""Strands: points 12, 13 and 14, point 5 for a draft of one, and point 1 for them."""

import itertools
import unittest

from wornband.bands import woven
from wornband.errors import SeenThread, Unlike
from wornband.strands import left_by, plain, seen, stepped, steps

TABLETS = [(lay, holes, stand) for lay in "SZ" for holes in ("abcd", "aabb", "abab") for stand in range(4)]
COLUMNS = ["".join(turns) for long in range(4) for turns in itertools.product("fbi", repeat=long)]
LONG = "fbiffbbi" * 30


def every_strand():
    return [(tablet, turns) for tablet in TABLETS for turns in COLUMNS]


class LeftBy(unittest.TestCase):
    def test_no_turns(self):
        for tablet in TABLETS:
            self.assertEqual(left_by((tablet, "")), [])

    def test_one_turn_on_both_lays(self):
        self.assertEqual(left_by((("S", "abcd", 0), "f")), [("b", "d", "s")])
        self.assertEqual(left_by((("S", "abcd", 0), "b")), [("d", "b", "z")])
        self.assertEqual(left_by((("S", "abcd", 3), "f")), [("a", "c", "s")])
        self.assertEqual(left_by((("S", "abcd", 1), "i")), [("b", "d", "o")])
        self.assertEqual(left_by((("Z", "abcd", 0), "f")), [("b", "d", "z")])
        self.assertEqual(left_by((("Z", "abcd", 0), "b")), [("d", "b", "s")])

    def test_idle_turns_alone(self):
        self.assertEqual(left_by((("Z", "abcd", 2), "iii")), [("c", "a", "o")] * 3)

    def test_several_turns(self):
        band = left_by((("S", "abcd", 0), "ffibb"))
        self.assertEqual(band, [("b", "d", "s"), ("c", "a", "s"), ("c", "a", "o"), ("b", "d", "z"), ("a", "c", "z")])
        self.assertIs(type(band), list)
        self.assertIs(type(band[0]), tuple)

    def test_the_same_as_the_band_of_a_draft_of_one(self):
        for tablet, turns in every_strand() + [(tablet, LONG) for tablet in TABLETS]:
            self.assertEqual([[place] for place in left_by((tablet, turns))], woven([tablet], list(turns)))

    def test_240_turns(self):
        self.assertEqual(left_by((("S", "abcd", 0), "f" * 240))[236:],
                         [("b", "d", "s"), ("c", "a", "s"), ("d", "b", "s"), ("a", "c", "s")])
        self.assertEqual(len(left_by((("Z", "abcd", 1), LONG))), 240)

    def test_asked_again_after_what_was_told_was_changed(self):
        strand = (("S", "abcd", 0), "fi")
        left_by(strand).clear()
        self.assertEqual(left_by(strand), [("b", "d", "s"), ("b", "d", "o")])


class Seen(unittest.TestCase):
    def test_no_turns(self):
        for tablet in TABLETS:
            self.assertEqual(seen((tablet, "")), [])

    def test_one_turn(self):
        for lay in "SZ":
            self.assertEqual(seen(((lay, "abcd", 0), "f")), [1, 3])
            self.assertEqual(seen(((lay, "abcd", 0), "b")), [1, 3])
            self.assertEqual(seen(((lay, "abcd", 1), "f")), [0, 2])
            self.assertEqual(seen(((lay, "abcd", 3), "b")), [0, 2])

    def test_idle_turns_alone(self):
        for lay in "SZ":
            for turns in ("i", "iii"):
                self.assertEqual(seen(((lay, "abcd", 0), turns)), [0, 2])
                self.assertEqual(seen(((lay, "abcd", 1), turns)), [1, 3])
                self.assertEqual(seen(((lay, "abcd", 2), turns)), [0, 2])
                self.assertEqual(seen(((lay, "abcd", 3), turns)), [1, 3])

    def test_all_holes(self):
        for lay in "SZ":
            for turns in ("ff", "fb", "if", "bbbb", LONG):
                self.assertEqual(seen(((lay, "abcd", 2), turns)), [0, 1, 2, 3])

    def test_two_holes_of_many_turns(self):
        self.assertEqual(seen((("S", "abcd", 0), "f" + "i" * 239)), [1, 3])

    def test_threads_of_one_colour_are_told_apart(self):
        self.assertEqual(seen((("S", "aaaa", 0), "f")), [1, 3])
        self.assertEqual(seen((("S", "aaaa", 0), "i")), [0, 2])

    def test_a_hole_is_seen_just_where_its_own_colour_is_in_the_band(self):
        for lay, stand, turns in itertools.product("SZ", range(4), COLUMNS):
            strand = ((lay, "abcd", stand), turns)
            shown = {place[at] for place in left_by(strand) for at in (0, 1)}
            told = seen(strand)
            self.assertEqual(told, [hole for hole in range(4) if "abcd"[hole] in shown])
            self.assertIs(type(told), list)

    def test_asked_again_after_what_was_told_was_changed(self):
        strand = (("S", "abcd", 0), "f")
        seen(strand).append(0)
        self.assertEqual(seen(strand), [1, 3])


class Plain(unittest.TestCase):
    def test_no_turns(self):
        for tablet in TABLETS:
            self.assertEqual(plain((tablet, "")), ("????", ""))

    def test_every_stand_of_an_s_tablet(self):
        for stand, signs in enumerate(("abcd", "bcda", "cdab", "dabc")):
            self.assertEqual(plain((("S", "abcd", stand), "ffib")), (signs, "ssoz"))

    def test_every_stand_of_a_z_tablet(self):
        for stand, signs in enumerate(("adcb", "badc", "cbad", "dcba")):
            self.assertEqual(plain((("Z", "abcd", stand), "ffib")), (signs, "zzos"))

    def test_holes_that_are_not_seen(self):
        self.assertEqual(plain((("S", "abcd", 0), "f")), ("?b?d", "s"))
        self.assertEqual(plain((("S", "abcd", 0), "ii")), ("a?c?", "oo"))
        self.assertEqual(plain((("S", "abcd", 3), "b")), ("?a?c", "z"))
        self.assertEqual(plain((("Z", "abcd", 0), "f")), ("?d?b", "z"))
        self.assertEqual(plain((("Z", "abcd", 1), "i")), ("b?d?", "o"))
        self.assertEqual(plain((("Z", "abcd", 3), "b")), ("?c?a", "s"))

    def test_a_pair_of_texts(self):
        form = plain((("Z", "abcd", 1), "fi"))
        self.assertIs(type(form), tuple)
        self.assertEqual([type(text) for text in form], [str, str])

    def test_240_turns(self):
        self.assertEqual(plain((("S", "abcd", 0), LONG)), ("abcd", "szosszzo" * 30))

    def test_the_same_just_where_the_bands_are_the_same(self):
        strands = every_strand()
        bands = {}
        for strand in strands:
            bands.setdefault(plain(strand), []).append(left_by(strand))
        for told in bands.values():
            self.assertTrue(all(band == told[0] for band in told))
        self.assertEqual(len(bands), len({tuple(left_by(strand)) for strand in strands}))

    def test_colours_that_are_not_seen_do_not_matter(self):
        self.assertEqual(plain((("S", "abcd", 0), "f")), plain((("S", "xbyd", 0), "f")))
        self.assertNotEqual(plain((("S", "abcd", 0), "f")), plain((("S", "axcd", 0), "f")))


class Stepped(unittest.TestCase):
    STRAND = (("S", "abcd", 1), "ffib")

    def check_kinds(self, strand):
        self.assertIs(type(strand), tuple)
        self.assertEqual([type(part) for part in strand], [tuple, str])

    def test_flip(self):
        self.assertEqual(stepped(self.STRAND, ("flip",)), (("Z", "adcb", 3), "bbif"))
        self.assertEqual(stepped((("Z", "abcd", 0), ""), ("flip",)), (("S", "adcb", 0), ""))

    def test_roll(self):
        for many, (holes, stand) in enumerate((("abcd", 1), ("dabc", 2), ("cdab", 3), ("bcda", 0))):
            self.assertEqual(stepped(self.STRAND, ("roll", many)), (("S", holes, stand), "ffib"))

    def test_dye_of_a_hole_that_is_not_seen(self):
        strand = (("Z", "abcd", 0), "f")
        self.assertEqual(stepped(strand, ("dye", 0, "x")), (("Z", "xbcd", 0), "f"))
        self.assertEqual(stepped(strand, ("dye", 2, "z")), (("Z", "abzd", 0), "f"))
        self.assertEqual(stepped(strand, ("dye", 2, "c")), strand)

    def test_dye_of_any_hole_where_there_are_no_turns(self):
        for hole in range(4):
            dyed = stepped((("S", "abcd", 3), ""), ("dye", hole, "q"))
            self.assertEqual(dyed, (("S", "abcd"[:hole] + "q" + "abcd"[hole + 1:], 3), ""))

    def test_dye_of_a_hole_that_is_seen(self):
        for tablet, turns in every_strand():
            for hole in range(4):
                if hole in seen((tablet, turns)):
                    for colour in ("x", tablet[1][hole]):
                        with self.assertRaises(SeenThread):
                            stepped((tablet, turns), ("dye", hole, colour))
                else:
                    self.assertEqual(stepped((tablet, turns), ("dye", hole, "x"))[0][1][hole], "x")

    def test_a_hole_or_a_roll_beyond_the_bounds_goes_round_and_round(self):
        strand = (("Z", "abcd", 0), "f")
        self.assertEqual(stepped(strand, ("dye", 4, "x")), (("Z", "xbcd", 0), "f"))
        self.assertEqual(stepped(strand, ("roll", 5)), (("Z", "dabc", 1), "f"))
        with self.assertRaises(SeenThread):
            stepped(strand, ("dye", 5, "x"))

    def test_the_hole_is_that_of_the_tablet_as_it_is_then(self):
        strand = stepped((("S", "abcd", 0), "f"), ("roll", 1))
        self.assertEqual(stepped(strand, ("dye", 1, "x")), (("S", "dxbc", 1), "f"))
        with self.assertRaises(SeenThread):
            stepped(strand, ("dye", 0, "x"))

    def test_pairs_of_a_tablet_and_a_column(self):
        for step in (("flip",), ("roll", 0), ("roll", 3)):
            self.check_kinds(stepped(self.STRAND, step))
        self.check_kinds(stepped((("S", "abcd", 1), "i"), ("dye", 0, "a")))

    def test_no_step_changes_the_band(self):
        for strand in every_strand():
            for step in [("flip",)] + [("roll", many) for many in range(4)]:
                self.assertEqual(left_by(stepped(strand, step)), left_by(strand))
            for hole in range(4):
                if hole not in seen(strand):
                    self.assertEqual(left_by(stepped(strand, ("dye", hole, "x"))), left_by(strand))

    def test_the_strand_is_unchanged(self):
        strand = (("S", "abcd", 1), "i")
        for step in (("flip",), ("roll", 2), ("dye", 0, "x")):
            stepped(strand, step)
            self.assertEqual(strand, (("S", "abcd", 1), "i"))


class Steps(unittest.TestCase):
    def lead(self, one, other):
        told = steps(one, other)
        self.assertIs(type(told), list)
        self.assertLessEqual(len(told), 6)
        strand = one
        for step in told:
            self.assertIs(type(step), tuple)
            self.assertIn((step[0], len(step)), (("flip", 1), ("roll", 2), ("dye", 3)))
            if step[0] == "roll":
                self.assertIn(step[1], (0, 1, 2, 3))
            strand = stepped(strand, step)
        self.assertEqual(strand, other)
        return told

    def both(self, one, other):
        self.lead(one, other)
        self.lead(other, one)

    def part(self, one, other, pick, side):
        for first, second in ((one, other), (other, one)):
            with self.subTest(first=first, second=second):
                with self.assertRaises(Unlike) as caught:
                    steps(first, second)
                self.assertEqual((caught.exception.pick, caught.exception.side), (pick, side))

    def test_the_same_strand(self):
        for strand in every_strand():
            self.assertEqual(self.lead(strand, strand), [])

    def test_flipped(self):
        self.assertEqual(self.lead((("S", "abcd", 0), "ffi"), (("Z", "adcb", 0), "bbi")), [("flip",)])
        for strand in every_strand():
            self.both(strand, stepped(strand, ("flip",)))

    def test_rolled(self):
        self.assertEqual(self.lead((("S", "abcd", 0), "ffi"), (("S", "dabc", 1), "ffi")), [("roll", 1)])
        for strand in every_strand():
            for many in range(4):
                self.both(strand, stepped(strand, ("roll", many)))

    def test_dyed(self):
        self.assertEqual(self.lead((("S", "abcd", 0), "f"), (("S", "abxd", 0), "f")), [("dye", 2, "x")])
        for strand in every_strand():
            for hole in range(4):
                if hole not in seen(strand):
                    self.both(strand, stepped(strand, ("dye", hole, "x")))

    def test_all_together(self):
        self.both((("S", "abcd", 1), "f"), (("Z", "xcya", 2), "b"))
        self.both((("Z", "abcd", 3), "iii"), (("S", "xdyb", 1), "iii"))
        for strand in every_strand():
            other = strand
            for hole, colour in enumerate("wxyz"):
                if hole not in seen(strand):
                    other = stepped(other, ("dye", hole, colour))
            for many in range(4):
                self.both(strand, stepped(stepped(other, ("flip",)), ("roll", many)))

    def test_no_turns_at_all(self):
        self.assertEqual(len(self.lead((("S", "abcd", 0), ""), (("Z", "wxyz", 2), ""))), 6)
        for one, other in itertools.product(TABLETS, repeat=2):
            self.both((one, ""), (other, ""))

    def test_every_two_strands_with_the_same_band(self):
        by_form = {}
        for strand in every_strand():
            by_form.setdefault(plain(strand), []).append(strand)
        for alike in by_form.values():
            for other in alike:
                self.both(alike[0], other)

    def test_240_turns(self):
        self.both((("S", "abcd", 0), LONG), (("Z", "badc", 1), LONG.translate(str.maketrans("fb", "bf"))))

    def test_unlike_faces(self):
        self.part((("S", "abcd", 0), "f"), (("S", "axcd", 0), "f"), 0, "face")
        self.part((("S", "abab", 0), "iif"), (("S", "acab", 0), "iif"), 2, "face")

    def test_unlike_backs(self):
        self.part((("S", "abcd", 0), "fff"), (("S", "abcx", 0), "fff"), 0, "back")
        self.part((("S", "abcd", 0), "i"), (("S", "abxd", 0), "i"), 0, "back")
        self.part((("S", "abcd", 0), "iiif"), (("S", "abcx", 0), "iiif"), 3, "back")

    def test_unlike_slants(self):
        self.part((("S", "aaaa", 0), "f"), (("S", "aaaa", 0), "b"), 0, "slant")
        self.part((("S", "aaaa", 0), "ffi"), (("S", "aaaa", 0), "fff"), 2, "slant")
        self.part((("S", "abab", 0), "ff"), (("Z", "abab", 0), "fb"), 0, "slant")

    def test_the_first_side_that_differs(self):
        self.part((("S", "abcd", 0), "f"), (("S", "wxyz", 0), "b"), 0, "face")
        self.part((("S", "abcd", 0), "f"), (("S", "abcx", 0), "b"), 0, "face")
        self.part((("S", "abcd", 0), "f"), (("S", "axcb", 0), "b"), 0, "back")

    def test_the_first_pick_that_differs(self):
        self.part((("S", "abcd", 0), "ffff"), (("S", "abcx", 0), "iiii"), 0, "face")
        self.part((("S", "aaaa", 0), "ffif"), (("S", "aaax", 0), "fiff"), 0, "back")
        self.part((("S", "aaaa", 0), "ifif"), (("S", "aaax", 0), "iiff"), 1, "slant")

    def test_the_one_is_the_beginning_of_the_other(self):
        self.part((("S", "abcd", 0), ""), (("S", "abcd", 0), "f"), 0, "end")
        self.part((("S", "abcd", 0), "fib"), (("S", "abcd", 0), "fi"), 2, "end")
        self.part((("S", "abcd", 0), "fi"), (("Z", "adcb", 0), "bib"), 2, "end")
        self.part((("S", "abcd", 0), LONG), (("S", "abcd", 0), LONG[:239]), 239, "end")

    def test_parted_ahead_of_the_end(self):
        self.part((("S", "abcd", 0), "fif"), (("S", "axcd", 0), "fi"), 0, "face")

    def test_unlike_just_where_the_bands_are(self):
        strands = [(tablet, turns) for tablet in TABLETS[::5] for turns in COLUMNS]
        for one, other in itertools.product(strands, repeat=2):
            ones, others = left_by(one), left_by(other)
            if ones == others:
                self.lead(one, other)
                continue
            with self.assertRaises(Unlike) as caught:
                steps(one, other)
            pick, side = caught.exception.pick, caught.exception.side
            self.assertEqual(ones[:pick], others[:pick])
            if side == "end":
                self.assertEqual(pick, min(len(ones), len(others)))
                continue
            at = ("face", "back", "slant").index(side)
            self.assertEqual(ones[pick][:at], others[pick][:at])
            self.assertNotEqual(ones[pick][at], others[pick][at])

    def test_the_strands_are_unchanged_and_told_again(self):
        one, other = (("S", "abcd", 1), "f"), (("Z", "xcya", 2), "b")
        told = steps(one, other)
        again = list(told)
        told.clear()
        self.assertEqual(steps(one, other), again)
        self.assertEqual((one, other), ((("S", "abcd", 1), "f"), (("Z", "xcya", 2), "b")))


if __name__ == "__main__":
    unittest.main()
