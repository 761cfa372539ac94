"""Tablets: points 2, 3 and 4."""

import unittest

from wornband.errors import BadTablet
from wornband.tablets import (
    bottom, flipped, made, opposite, rolled, top, turned, twisting,
)

EVERY = [(lay, "abcd", stand) for lay in "SZ" for stand in range(4)]
FAR = 10 ** 30


class Made(unittest.TestCase):
    def refuse(self, lay, holes, stand):
        with self.subTest(lay=lay, holes=holes, stand=stand):
            with self.assertRaises(BadTablet):
                made(lay, holes, stand)

    def test_told_as_handed_in(self):
        for lay in "SZ":
            for stand in range(4):
                for holes in ("abcd", "azza", "qqqq", "zyxw"):
                    with self.subTest(lay=lay, holes=holes, stand=stand):
                        tablet = made(lay, holes, stand)
                        self.assertIs(type(tablet), tuple)
                        self.assertEqual(tablet, (lay, holes, stand))

    def test_every_small_letter_is_a_colour(self):
        for sign in "abcdefghijklmnopqrstuvwxyz":
            with self.subTest(sign=sign):
                self.assertEqual(made("S", sign * 4, 0), ("S", sign * 4, 0))

    def test_other_lays(self):
        for lay in ("", "s", "z", "SS", "SZ", "ZZ", "f", " S", "S ", "S\n", "Y", "0"):
            self.refuse(lay, "abcd", 0)

    def test_other_numbers_of_holes(self):
        for holes in ("", "a", "ab", "abc", "abcde", "abcdabcd", "z" * 400):
            self.refuse("S", holes, 0)

    def test_signs_that_are_no_colour_in_any_hole(self):
        others = [sign for sign in map(chr, range(32, 127)) if not "a" <= sign <= "z"]
        for sign in others + ["\n"]:
            for hole in range(4):
                self.refuse("Z", "abcd"[:hole] + sign + "abcd"[hole + 1:], 1)

    def test_four_colours_and_a_line_feed(self):
        self.refuse("S", "abcd\n", 0)
        self.refuse("S", "\nabcd", 0)

    def test_other_stands(self):
        for lay in "SZ":
            for stand in (-1, -2, -4, 4, 5, 8, FAR, -FAR):
                self.refuse(lay, "abcd", stand)


class Threads(unittest.TestCase):
    def test_top(self):
        for lay in "SZ":
            with self.subTest(lay=lay):
                self.assertEqual([top((lay, "abcd", stand)) for stand in range(4)], ["a", "b", "c", "d"])

    def test_bottom(self):
        for lay in "SZ":
            with self.subTest(lay=lay):
                self.assertEqual([bottom((lay, "abcd", stand)) for stand in range(4)], ["c", "d", "a", "b"])

    def test_a_stand_beyond_the_holes_is_not_refused(self):
        self.assertEqual((top(("S", "abcd", 4)), bottom(("S", "abcd", 4))), ("a", "c"))
        self.assertEqual((top(("Z", "abcd", -1)), bottom(("Z", "abcd", -1))), ("d", "b"))


class Turns(unittest.TestCase):
    def test_twists_of_every_turn(self):
        wanted = {"S": {"f": 1, "b": -1, "i": 0}, "Z": {"f": -1, "b": 1, "i": 0}}
        for tablet in EVERY:
            for turn in "fbi":
                with self.subTest(tablet=tablet, turn=turn):
                    self.assertEqual(twisting(tablet, turn), wanted[tablet[0]][turn])

    def test_stands_behind_every_turn(self):
        wanted = {"f": [1, 2, 3, 0], "b": [3, 0, 1, 2], "i": [0, 1, 2, 3]}
        for lay, holes, stand in EVERY:
            for turn in "fbi":
                with self.subTest(lay=lay, stand=stand, turn=turn):
                    tablet = turned((lay, holes, stand), turn)
                    self.assertIs(type(tablet), tuple)
                    self.assertEqual(tablet, (lay, holes, wanted[turn][stand]))

    def test_four_turns_come_round(self):
        for tablet in EVERY:
            for turn in "fbi":
                with self.subTest(tablet=tablet, turn=turn):
                    behind = tablet
                    for many in range(4):
                        behind = turned(behind, turn)
                    self.assertEqual(behind, tablet)

    def test_opposites(self):
        for turns, wanted in [
            ("f", "b"), ("b", "f"), ("i", "i"), ("", ""),
            ("ffbi", "bbfi"), ("ibf", "ifb"), ("fbifbi", "bfibfi"), ("f" * 240, "b" * 240),
        ]:
            with self.subTest(turns=turns):
                self.assertEqual(opposite(turns), wanted)
                self.assertEqual(opposite(wanted), turns)


class Flipped(unittest.TestCase):
    def test_every_lay_and_stand(self):
        for tablet, wanted in [
            (("S", "abcd", 0), ("Z", "adcb", 0)), (("S", "abcd", 1), ("Z", "adcb", 3)),
            (("S", "abcd", 2), ("Z", "adcb", 2)), (("S", "abcd", 3), ("Z", "adcb", 1)),
            (("Z", "wxyz", 0), ("S", "wzyx", 0)), (("Z", "wxyz", 1), ("S", "wzyx", 3)),
            (("Z", "wxyz", 2), ("S", "wzyx", 2)), (("Z", "wxyz", 3), ("S", "wzyx", 1)),
        ]:
            with self.subTest(tablet=tablet):
                self.assertIs(type(flipped(tablet)), tuple)
                self.assertEqual(flipped(tablet), wanted)

    def test_twice_is_the_first(self):
        for tablet in EVERY:
            with self.subTest(tablet=tablet):
                self.assertEqual(flipped(flipped(tablet)), tablet)

    def test_top_and_bottom_stay(self):
        for tablet in EVERY:
            with self.subTest(tablet=tablet):
                self.assertEqual(top(flipped(tablet)), top(tablet))
                self.assertEqual(bottom(flipped(tablet)), bottom(tablet))


class Rolled(unittest.TestCase):
    def test_by_each_number(self):
        for many, holes, stand in [
            (0, "abcd", 1), (1, "dabc", 2), (2, "cdab", 3), (3, "bcda", 0), (4, "abcd", 1),
            (-1, "bcda", 0), (-2, "cdab", 3), (-3, "dabc", 2), (-4, "abcd", 1),
            (4 * FAR + 1, "dabc", 2), (4 * FAR + 2, "cdab", 3), (-4 * FAR - 1, "bcda", 0), (-4 * FAR + 1, "dabc", 2),
        ]:
            for lay in "SZ":
                with self.subTest(lay=lay, many=many):
                    tablet = rolled((lay, "abcd", 1), many)
                    self.assertIs(type(tablet), tuple)
                    self.assertEqual(tablet, (lay, holes, stand))

    def test_the_stand_goes_round(self):
        self.assertEqual([rolled(("S", "abcd", stand), 1)[2] for stand in range(4)], [1, 2, 3, 0])
        self.assertEqual([rolled(("Z", "abcd", stand), -1)[2] for stand in range(4)], [3, 0, 1, 2])

    def test_top_and_bottom_stay(self):
        for tablet in EVERY:
            for many in (0, 1, 2, 3, 4, 5, -1, -2, -3, FAR + 3, -FAR - 3):
                with self.subTest(tablet=tablet, many=many):
                    self.assertEqual(top(rolled(tablet, many)), top(tablet))
                    self.assertEqual(bottom(rolled(tablet, many)), bottom(tablet))

    def test_by_two_numbers_as_by_their_sum(self):
        for tablet in EVERY:
            for one in range(-6, 7):
                for other in (-5, -1, 0, 1, 2, 3, 4, FAR + 1, -FAR - 2):
                    with self.subTest(tablet=tablet, one=one, other=other):
                        self.assertEqual(rolled(rolled(tablet, one), other), rolled(tablet, one + other))


if __name__ == "__main__":
    unittest.main()
