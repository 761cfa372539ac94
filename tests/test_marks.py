"""Worn marks: points 15, 16 and 17, and point 1 for them."""

import copy
import itertools
import unittest

from tests.helpers import WORN
from wornband.bands import woven
from wornband.errors import BadMark, BadText
from wornband.marks import Fragment, agrees, parting, sheet_of, sheet_text

SIDES = ("face", "back", "slant")
PLACE = ("a", "b", "s")
LINE = " ".join(["ab?", "?xz", "???", "z?o", "??s", "m??", "?n?", "zzz"])


class Agrees(unittest.TestCase):
    def test_all_left(self):
        self.assertIs(agrees(PLACE, ("a", "b", "s")), True)

    def test_wholly_worn(self):
        for place in (PLACE, ("z", "z", "o"), ("a", "z", "z")):
            self.assertIs(agrees(place, WORN), True)

    def test_each_side_worn_left_and_false(self):
        for signs in itertools.product("?ax", "?bx", "?sz"):
            right = all(sign in ("?", place) for sign, place in zip(signs, PLACE))
            self.assertIs(agrees(PLACE, signs), right, signs)

    def test_each_side_alone_is_false(self):
        for word in ("xbs", "axs", "abz", "x??", "?x?", "??o"):
            self.assertIs(agrees(PLACE, tuple(word)), False)

    def test_face_and_back_are_not_exchanged(self):
        self.assertIs(agrees(PLACE, ("b", "a", "s")), False)


class Parting(unittest.TestCase):
    def setUp(self):
        self.band = woven([("S", "abcd", 0), ("Z", "aabb", 1), ("S", "wxyz", 3)], ["ffb", "fbi", "iff", "bbb"])
        self.sheet = [list(pick) for pick in self.band]

    def put(self, pick, k, at, sign):
        signs = list(self.sheet[pick][k])
        signs[at] = sign
        self.sheet[pick][k] = tuple(signs)

    def test_no_picks(self):
        self.assertIsNone(parting([], []))

    def test_all_left(self):
        self.assertIsNone(parting(self.band, self.sheet))

    def test_all_worn(self):
        self.assertIsNone(parting(self.band, [[WORN] * 3 for pick in self.band]))

    def test_some_worn(self):
        for pick, k, at in itertools.product(range(4), range(3), range(3)):
            self.put(pick, k, at, "?")
            self.assertIsNone(parting(self.band, self.sheet))

    def test_each_place(self):
        for pick, k, at in itertools.product(range(4), range(3), range(3)):
            self.setUp()
            self.put(pick, k, at, "q")
            told = parting(self.band, self.sheet)
            self.assertEqual(told, (pick, k, SIDES[at]))
            self.assertIs(type(told), tuple)

    def test_the_first_of_every_two(self):
        places = list(itertools.product(range(4), range(3), range(3)))
        for one, other in itertools.combinations(places, 2):
            self.setUp()
            self.put(*one, "q")
            self.put(*other, "q")
            self.assertEqual(parting(self.band, self.sheet), (one[0], one[1], SIDES[one[2]]))

    def test_worn_ahead_of_the_first(self):
        self.put(0, 0, 0, "?")
        self.put(0, 0, 1, "?")
        self.put(0, 0, 2, "q")
        self.put(0, 1, 0, "q")
        self.assertEqual(parting(self.band, self.sheet), (0, 0, "slant"))

    def test_one_pick_of_one_tablet(self):
        self.assertEqual(parting([[PLACE]], [[("a", "b", "z")]]), (0, 0, "slant"))
        self.assertEqual(parting([[PLACE]], [[("?", "a", "z")]]), (0, 0, "back"))
        self.assertEqual(parting([[PLACE]], [[("b", "a", "z")]]), (0, 0, "face"))

    def test_band_and_sheet_are_unchanged(self):
        self.put(2, 1, 0, "q")
        band, sheet = copy.deepcopy(self.band), copy.deepcopy(self.sheet)
        parting(self.band, self.sheet)
        self.assertEqual((self.band, self.sheet), (band, sheet))


class FragmentTests(unittest.TestCase):
    def refuse(self, fragment, pick, k, side, sign="a"):
        sheet, known = fragment.sheet(), fragment.known()
        with self.subTest(pick=pick, k=k, side=side, sign=sign):
            with self.assertRaises(BadMark):
                fragment.spot(pick, k, side, sign)
            self.assertEqual((fragment.sheet(), fragment.known()), (sheet, known))

    def refuse_place(self, fragment, pick, k, side):
        self.refuse(fragment, pick, k, side, "s")
        self.refuse(fragment, pick, k, side, "a")
        sheet, known = fragment.sheet(), fragment.known()
        with self.assertRaises(BadMark):
            fragment.wear(pick, k, side)
        self.assertEqual((fragment.sheet(), fragment.known()), (sheet, known))

    def test_all_worn_at_first(self):
        for tall, wide in itertools.product((0, 1, 2, 60), (1, 2, 8)):
            fragment = Fragment(tall, wide)
            self.assertEqual(fragment.sheet(), [[WORN] * wide for pick in range(tall)])
            self.assertEqual(fragment.known(), 0)
            for k in range(wide):
                self.assertEqual(fragment.strip(k), [WORN] * tall)

    def test_no_picks(self):
        fragment = Fragment(0, 3)
        self.assertEqual((fragment.sheet(), fragment.strip(2), fragment.known()), ([], [], 0))
        for pick, k in itertools.product((-1, 0, 1), (-1, 0, 2, 3)):
            self.refuse_place(fragment, pick, k, "face")

    def test_spot_tells_what_stood_there(self):
        fragment = Fragment(2, 2)
        self.assertEqual(fragment.spot(0, 1, "face", "a"), "?")
        self.assertEqual(fragment.spot(0, 1, "face", "b"), "a")
        self.assertEqual(fragment.spot(0, 1, "face", "b"), "b")
        self.assertEqual(fragment.spot(0, 1, "back", "z"), "?")
        self.assertEqual(fragment.spot(0, 1, "slant", "s"), "?")
        self.assertEqual(fragment.spot(0, 1, "slant", "o"), "s")
        self.assertEqual(fragment.sheet(), [[WORN, ("b", "z", "o")], [WORN, WORN]])

    def test_wear_tells_what_stood_there(self):
        fragment = Fragment(1, 1)
        self.assertEqual(fragment.wear(0, 0, "back"), "?")
        fragment.spot(0, 0, "back", "c")
        fragment.spot(0, 0, "face", "d")
        self.assertEqual(fragment.wear(0, 0, "back"), "c")
        self.assertEqual(fragment.wear(0, 0, "back"), "?")
        self.assertEqual(fragment.sheet(), [[("d", "?", "?")]])
        self.assertEqual(fragment.wear(0, 0, "face"), "d")
        self.assertEqual(fragment.sheet(), [[WORN]])

    def test_every_place_of_its_own(self):
        for tall, wide in ((60, 8), (1, 1), (3, 2)):
            fragment = Fragment(tall, wide)
            wanted = [[list(WORN) for k in range(wide)] for pick in range(tall)]
            places = list(itertools.product(range(tall), range(wide), range(3)))
            for many, (pick, k, at) in enumerate(places):
                sign = "szo"[(pick + k) % 3] if at == 2 else "abcdefgh"[(pick + 3 * k + at) % 8]
                self.assertEqual(fragment.known(), many)
                self.assertEqual(fragment.spot(pick, k, SIDES[at], sign), "?")
                wanted[pick][k][at] = sign
            self.assertEqual(fragment.sheet(), [[tuple(mark) for mark in pick] for pick in wanted])
            for k in range(wide):
                self.assertEqual(fragment.strip(k), [tuple(pick[k]) for pick in wanted])

    def test_every_sign(self):
        fragment = Fragment(1, 1)
        for sign in "abcdefghijklmnopqrstuvwxyz":
            fragment.spot(0, 0, "face", sign)
            fragment.spot(0, 0, "back", sign)
            self.assertEqual(fragment.strip(0), [(sign, sign, "?")])
        for sign in "szo":
            fragment.spot(0, 0, "slant", sign)
            self.assertEqual(fragment.strip(0), [("z", "z", sign)])

    def test_known(self):
        fragment = Fragment(2, 2)
        for many, (pick, k, side, sign) in enumerate([(0, 0, "face", "a"), (0, 0, "back", "a"), (1, 1, "slant", "o")]):
            fragment.spot(pick, k, side, sign)
            self.assertEqual(fragment.known(), many + 1)
        fragment.spot(1, 1, "slant", "s")
        self.assertEqual(fragment.known(), 3)
        fragment.wear(0, 1, "face")
        self.assertEqual(fragment.known(), 3)
        fragment.wear(0, 0, "face")
        self.assertEqual(fragment.known(), 2)

    def test_places_that_are_not_there(self):
        for tall, wide in ((1, 1), (3, 2), (2, 3), (60, 8)):
            fragment = Fragment(tall, wide)
            fragment.spot(0, 0, "face", "q")
            for pick in (-1, -tall, tall, tall + 1, 10 ** 30, -10 ** 30):
                self.refuse_place(fragment, pick, 0, "slant")
            for k in (-1, -wide, wide, wide + 1, 10 ** 30, -10 ** 30):
                self.refuse_place(fragment, 0, k, "slant")

    def test_sides_that_are_none(self):
        fragment = Fragment(2, 2)
        fragment.spot(1, 1, "face", "q")
        for side in ("", "Face", "faces", "fac", "face ", "top", "?", "s", "slan", "face back", "\n"):
            self.refuse_place(fragment, 1, 1, side)

    def test_signs_that_do_not_fit(self):
        fragment = Fragment(2, 2)
        fragment.spot(1, 1, "face", "q")
        fragment.spot(1, 1, "slant", "z")
        wrong = ("?", "", "A", "Z", "S", "ab", "aa", "sz", "szo", "zo", " ", "a ", "0", "`", "{", "~", "\n", "o\n")
        for side, sign in itertools.product(SIDES, wrong):
            self.refuse(fragment, 1, 1, side, sign)
        for sign in "abcdefghijklmnpqrtuvwxy":
            self.refuse(fragment, 1, 1, "slant", sign)

    def test_what_is_told_may_be_changed(self):
        fragment = Fragment(2, 2)
        fragment.spot(0, 1, "face", "a")
        sheet = copy.deepcopy(fragment.sheet())
        told = fragment.sheet()
        told[0][1] = ("x", "x", "s")
        told[1].clear()
        told.append([])
        fragment.strip(1)[0] = ("x", "x", "s")
        fragment.strip(1).clear()
        self.assertEqual(fragment.sheet(), sheet)
        self.assertEqual(fragment.strip(1), [("a", "?", "?"), WORN])
        self.assertEqual(fragment.known(), 1)

    def test_what_was_told_stays(self):
        fragment = Fragment(1, 1)
        sheet, strip = fragment.sheet(), fragment.strip(0)
        fragment.spot(0, 0, "back", "x")
        self.assertEqual((sheet, strip), ([[WORN]], [WORN]))

    def test_kinds(self):
        fragment = Fragment(2, 2)
        fragment.spot(1, 0, "slant", "o")
        sheet, strip = fragment.sheet(), fragment.strip(0)
        self.assertEqual([type(sheet), type(strip), type(fragment.known())], [list, list, int])
        self.assertTrue(all(type(pick) is list for pick in sheet))
        self.assertTrue(all(type(mark) is tuple for pick in sheet + [strip] for mark in pick))

    def test_two_beside_one_another(self):
        one, other = Fragment(2, 1), Fragment(2, 1)
        one.spot(1, 0, "face", "a")
        other.spot(0, 0, "back", "b")
        self.assertEqual(one.sheet(), [[WORN], [("a", "?", "?")]])
        self.assertEqual(other.sheet(), [[("?", "b", "?")], [WORN]])


SHEETS = [
    ("", []),
    ("???", [[WORN]]),
    ("abs", [[("a", "b", "s")]]),
    ("z?o", [[("z", "?", "o")]]),
    ("abs\n?cz", [[("a", "b", "s")], [("?", "c", "z")]]),
    ("abs ??o", [[("a", "b", "s"), ("?", "?", "o")]]),
    ("abs ???\nz?? oso", [[("a", "b", "s"), WORN], [("z", "?", "?"), ("o", "s", "o")]]),
]


class Texts(unittest.TestCase):
    def refuse(self, text):
        with self.subTest(text=text), self.assertRaises(BadText):
            sheet_of(text)

    def test_each_text(self):
        for text, sheet in SHEETS:
            self.assertEqual(sheet_text(sheet), text)
            self.assertEqual(sheet_of(text), sheet)

    def test_every_mark(self):
        for signs in itertools.product("?amz", "?amz", "?szo"):
            self.assertEqual(sheet_of("".join(signs)), [[signs]])
            self.assertEqual(sheet_text([[signs]]), "".join(signs))

    def test_every_text_of_three_signs(self):
        signs = [chr(code) for code in range(32, 127) if chr(code) != "%"] + ["\n"]
        for at in range(3):
            for sign in signs:
                word = "ab?"[:at] + sign + "ab?"[at + 1:]
                if sign in ("?szo" if at == 2 else "?abcdefghijklmnopqrstuvwxyz"):
                    self.assertEqual(sheet_of(word), [[tuple(word)]])
                else:
                    self.refuse(word)

    def test_each_number_of_marks_and_lines(self):
        words = LINE.split(" ")
        for wide, tall in itertools.product(range(1, 9), (1, 2, 59, 60)):
            text = "\n".join([" ".join(words[:wide])] * tall)
            sheet = sheet_of(text)
            self.assertEqual(sheet, [[tuple(word) for word in words[:wide]]] * tall)
            self.assertEqual(sheet_text(sheet), text)

    def test_kinds(self):
        sheet = sheet_of("abs ???\nz?? oso")
        self.assertIs(type(sheet), list)
        self.assertTrue(all(type(pick) is list for pick in sheet))
        self.assertTrue(all(type(mark) is tuple for pick in sheet for mark in pick))
        self.assertIs(type(sheet_of("")), list)

    def test_marks_of_other_lengths(self):
        for word in ("a", "ab", "absa", "abss", "??", "????", "absabs", "as"):
            for text in (word, word + " abs", "abs " + word, word + "\nabs", "abs\n" + word):
                self.refuse(text)

    def test_signs_that_do_not_fit(self):
        for word in ("Abs", "aBs", "abS", "aba", "ab0", "1bs", "a.s", "ab*", "sza", "`bs", "{bs"):
            for text in (word, word + " abs", "abs " + word, word + "\nabs", "abs\n" + word):
                self.refuse(text)

    def test_lines_of_unlike_many_marks(self):
        for text in ("abs\nabs abs", "abs abs\nabs", "abs abs\nabs abs\nabs", LINE + "\nabs", "abs abs\nabs abs abs"):
            self.refuse(text)

    def test_nine_marks(self):
        for tall in (1, 2, 60):
            self.refuse("\n".join([LINE + " abs"] * tall))
        self.refuse(LINE + "\n" + LINE + " abs")

    def test_61_lines(self):
        for line in ("abs", LINE):
            self.assertEqual(len(sheet_of("\n".join([line] * 60))), 60)
            self.refuse("\n".join([line] * 61))
            self.refuse("\n".join([line] * 500))

    def test_blanks_and_line_feeds(self):
        for text in (" ", "  ", "\n", "\n\n", " \n", "abs ", " abs", "abs  abs", "abs\n", "\nabs", "abs\n\nabs",
                     "abs \nabs", "abs\n abs", "abs\n \nabs", "abs abs\n", "abs   abs", "abs\nabs\n\n"):
            self.refuse(text)

    def test_the_sheet_is_unchanged(self):
        for text, sheet in SHEETS:
            ahead = copy.deepcopy(sheet)
            sheet_text(sheet)
            self.assertEqual(sheet, ahead)

    def test_read_again_after_what_was_told_was_changed(self):
        for text, sheet in SHEETS:
            told = sheet_of(text)
            for pick in told:
                pick.clear()
            told.append([WORN])
            self.assertEqual(sheet_of(text), sheet)

    def test_a_fragment_s_sheet(self):
        fragment = Fragment(2, 2)
        fragment.spot(1, 0, "face", "x")
        self.assertEqual(sheet_text(fragment.sheet()), "??? ???\nx?? ???")
        self.assertEqual(sheet_of(sheet_text(fragment.sheet())), fragment.sheet())


if __name__ == "__main__":
    unittest.main()
