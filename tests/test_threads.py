"""Threads found: point 18, and point 1 for it."""

import copy
import itertools
import unittest

from tests.helpers import marks
from wornband.errors import BadMark
from wornband.marks import agrees
from wornband.strands import left_by
from wornband.threads import threaded

COLUMNS = ["".join(turns) for long in range(5) for turns in itertools.product("fbi", repeat=long)]
LONG = "fbiffbbi" * 7 + "ffbi"
MARKS = list(itertools.product("?ab", "?ab", "szo"))


def wished(strip):
    """What each mark wants, in order: tuples (pick, side, hole, colour)."""
    told = []
    stand = 0
    for pick, (face, back, slant) in enumerate(strip):
        stand = (stand + {"s": 1, "z": 3, "o": 0}[slant]) % 4
        told.append((pick, "face", stand, face))
        told.append((pick, "back", (stand + 2) % 4, back))
    return [wish for wish in told if wish[3] != "?"]


class Threaded(unittest.TestCase):
    def refuse(self, strip):
        ahead = copy.deepcopy(strip)
        with self.subTest(strip=strip), self.assertRaises(BadMark):
            threaded(strip)
        self.assertEqual(strip, ahead)

    def clash(self, text, one, other):
        told = threaded(marks(text))
        self.assertEqual(told, ("clash", one, other))
        self.assertEqual([type(told), type(told[1]), type(told[2])], [tuple] * 3)

    def test_an_empty_strip(self):
        self.assertEqual(threaded([]), ("holes", "????"))

    def test_one_mark_of_each_slant(self):
        self.assertEqual(threaded(marks("bds")), ("holes", "?b?d"))
        self.assertEqual(threaded(marks("dbz")), ("holes", "?b?d"))
        self.assertEqual(threaded(marks("aco")), ("holes", "a?c?"))
        self.assertEqual(threaded(marks("b?s")), ("holes", "?b??"))
        self.assertEqual(threaded(marks("?ds")), ("holes", "???d"))
        self.assertEqual(threaded(marks("d?z")), ("holes", "???d"))
        self.assertEqual(threaded(marks("?bz")), ("holes", "?b??"))
        self.assertEqual(threaded(marks("?co")), ("holes", "??c?"))
        for slant in "szo":
            self.assertEqual(threaded(marks("??" + slant)), ("holes", "????"))

    def test_each_hole_left_unspoken_for(self):
        self.assertEqual(threaded(marks("bds ?as c?o")), ("holes", "abcd"))
        self.assertEqual(threaded(marks("bds c?s")), ("holes", "?bcd"))
        self.assertEqual(threaded(marks("?ds cas")), ("holes", "a?cd"))
        self.assertEqual(threaded(marks("bds ?as")), ("holes", "ab?d"))
        self.assertEqual(threaded(marks("b?s cas")), ("holes", "abc?"))

    def test_face_and_back_of_one_hole(self):
        self.assertEqual(threaded(marks("a?o ??s ?as")), ("holes", "a???"))
        self.assertEqual(threaded(marks("?co ??s c?s")), ("holes", "??c?"))
        self.clash("a?o ??s ?bs", (0, "face"), (2, "back"))
        self.clash("?ao ??s b?s", (0, "back"), (2, "face"))

    def test_slants_of_all_kinds(self):
        self.assertEqual(threaded(marks("bds cas cao bdz acz dbz")), ("holes", "abcd"))
        self.assertEqual(threaded(marks("??z ??z ??z ??z d?z")), ("holes", "???d"))
        self.assertEqual(threaded(marks(" ".join(["??s"] * 58) + " d?s ?co")), ("holes", "?c?d"))

    def test_clash_of_face_with_face(self):
        self.clash("a?o b?o", (0, "face"), (1, "face"))
        self.clash("b?s ??s ??s ??s c?s", (0, "face"), (4, "face"))

    def test_clash_of_back_with_back(self):
        self.clash("?ao ?bo", (0, "back"), (1, "back"))
        self.clash("?as ??o ?ao ?bo", (0, "back"), (3, "back"))

    def test_face_and_back_of_one_mark_are_two_holes(self):
        for face, back, slant in itertools.product("ab", "ab", "szo"):
            self.assertEqual(threaded([(face, back, slant)])[0], "holes")

    def test_clash_on_both_sides_of_one_mark(self):
        self.clash("abo bao", (0, "face"), (1, "face"))
        self.clash("abo aao", (0, "back"), (1, "back"))
        self.clash("abo ??o ??s abs", (0, "back"), (3, "face"))

    def test_the_first_that_spoke_and_the_first_that_wants_another(self):
        self.clash("??o a?o a?o b?o c?o a?o", (1, "face"), (3, "face"))
        self.clash("a?s x?z a?s y?z", (1, "face"), (3, "face"))
        self.clash("x?s a?z b?o y?s", (1, "face"), (2, "face"))
        self.clash("?xo x?s a?z b?o ?yo", (2, "face"), (3, "face"))

    def test_a_clash_beside_holes_that_fit(self):
        self.clash("bds cas dbs acs bxs", (0, "back"), (4, "back"))
        self.clash(" ".join(["bds", "cas", "dbs", "acs"] * 14 + ["bds", "cas", "xbs"]), (0, "back"), (58, "face"))

    def test_a_worn_slant(self):
        for face, back in itertools.product("?ab", repeat=2):
            self.refuse([(face, back, "?")])
        self.refuse(marks("abs abo cd?"))
        self.refuse(marks("??? abs"))
        self.refuse(marks(" ".join(["??s"] * 59) + " ???"))

    def test_a_worn_slant_beside_a_clash(self):
        self.refuse(marks("a?o b?o ???"))
        self.refuse(marks("a?o ??? b?o"))
        self.refuse(marks("??? a?o b?o"))
        self.refuse(marks("a?? b?o"))
        self.refuse(marks("a?o b??"))

    def test_what_tablets_leave(self):
        for turns in COLUMNS + [LONG]:
            strip = left_by((("S", "abcd", 0), turns))
            kind, holes = threaded(strip)
            self.assertEqual(kind, "holes")
            shown = {sign for place in strip for sign in place[:2]}
            self.assertEqual(holes, "".join(sign if sign in shown else "?" for sign in "abcd"))

    def test_all_short_strips(self):
        for long in range(4):
            for strip in map(list, itertools.product(MARKS[::2] if long == 3 else MARKS, repeat=long)):
                self.right(strip, threaded(strip))

    def right(self, strip, told):
        wants = wished(strip)
        if told[0] == "holes":
            colours = {hole: {wish[3] for wish in wants if wish[2] == hole} for hole in range(4)}
            self.assertTrue(all(len(colours[hole]) <= 1 for hole in range(4)), strip)
            self.assertEqual(told[1], "".join([*colours[hole], "?"][0] for hole in range(4)))
            return
        clashes = [(one, other) for other in range(len(wants)) for one in range(other)
                   if wants[one][2] == wants[other][2] and wants[one][3] != wants[other][3]]
        first = min(other for one, other in clashes)
        spoke = min(at for at, wish in enumerate(wants) if wish[2] == wants[first][2])
        self.assertEqual(told, ("clash", wants[spoke][:2], wants[first][:2]))

    def test_the_tablet_agrees_with_the_strip(self):
        for strip in map(list, itertools.product(MARKS, repeat=2)):
            kind, *rest = threaded(strip)
            if kind == "holes":
                turns = "".join({"s": "f", "z": "b", "o": "i"}[slant] for face, back, slant in strip)
                places = left_by((("S", rest[0].replace("?", "q"), 0), turns))
                self.assertTrue(all(agrees(place, mark) for place, mark in zip(places, strip)))

    def test_the_strip_is_unchanged(self):
        for text in ("", "bds cas", "a?o b?o"):
            strip = marks(text)
            told = threaded(strip)
            self.assertEqual(strip, marks(text))
            self.assertEqual(threaded(strip), told)


if __name__ == "__main__":
    unittest.main()
