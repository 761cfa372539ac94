"""The chronicle: point 27, and point 1 for it."""

import itertools
import unittest

from tests.helpers import COLOURS, loom_asked as asked
from wornband.chronicle import brought, told
from wornband.errors import BadText, NothingLeft
from wornband.loom import Loom

DRAFT = [("S", "abcd", 0), ("Z", "aabb", 1)]
MOST = 999999999
SPOOLS = {"d": 50, "a": 50, "z": 0, "c": 50, "b": MOST}
DEEDS = [("row", "fb"), ("flip", 1), ("row", "ii"), ("flip", 0), ("row", "bf")]
WHOLE = "\n".join([
    "loom 3", "spool a 50", "spool b 999999999", "spool c 50", "spool d 50", "spool z 0", "tablet S abcd 0",
    "tablet Z aabb 1", "row fb", "flip 1", "row ii", "flip 0", "row bf",
])


def done(loom, deeds):
    for word, what in deeds:
        loom.weave(what) if word == "row" else loom.flip(what)
    return loom


def looms():
    """Looms of many kinds, each made anew."""
    plenty = {colour: MOST for colour in COLOURS}
    eight = [("Z", "wxyz", 3)] * 8
    return [
        Loom([("S", "abcd", 0)], 0, {}),
        Loom([("Z", "zzzz", 3)], MOST, {}),
        Loom(DRAFT, 10, {"q": 0}),
        Loom(DRAFT, 100, plenty),
        done(Loom(DRAFT, 3, SPOOLS), DEEDS),
        done(Loom(DRAFT, 0, {}), [("flip", 0), ("flip", 0), ("flip", 1)]),
        done(Loom(eight, 240, plenty), [("row", "fbifbifb"), ("flip", 7)] * 120),
        done(Loom([("S", "aaaa", 2)], 1, {"a": 8}), [("row", "f")]),
    ]


class Told(unittest.TestCase):
    def test_the_whole(self):
        text = told(done(Loom(DRAFT, 3, SPOOLS), DEEDS))
        self.assertEqual(text, WHOLE)
        self.assertIs(type(text), str)

    def test_without_spools_and_deeds(self):
        self.assertEqual(told(Loom([("S", "abcd", 0)], 0, {})), "loom 0\ntablet S abcd 0")
        self.assertEqual(told(Loom([("Z", "zzzz", 3)], MOST, {})), "loom 999999999\ntablet Z zzzz 3")

    def test_spools_of_length_nought(self):
        self.assertEqual(told(Loom([("S", "abcd", 0)], 1, {"q": 0, "a": 0})),
                         "loom 1\nspool a 0\nspool q 0\ntablet S abcd 0")

    def test_spools_and_tablets_as_they_were_at_the_start(self):
        loom = done(Loom([("S", "aaaa", 2)], 1, {"a": 8}), [("row", "f"), ("flip", 0)])
        self.assertEqual(loom.rest("a"), 0)
        self.assertEqual(told(loom), "loom 1\nspool a 8\ntablet S aaaa 2\nrow f\nflip 0")

    def test_undone_deeds_are_not_told(self):
        loom = done(Loom(DRAFT, 3, SPOOLS), DEEDS)
        lines = WHOLE.split("\n")
        for less in range(1, 6):
            loom.undo()
            self.assertEqual(told(loom), "\n".join(lines[:-less]))
        loom.redo()
        self.assertEqual(told(loom), "\n".join(lines[:-4]))

    def test_a_program_is_told_as_its_rows(self):
        loom = Loom(DRAFT, 3, SPOOLS)
        loom.follow([("mirror", [("row", "fi")])])
        self.assertEqual(told(loom).split("\n")[-2:], ["row fi", "row bi"])

    def test_what_was_handed_in_may_be_changed(self):
        draft, spools = list(DRAFT), dict(SPOOLS)
        loom = done(Loom(draft, 3, spools), DEEDS)
        draft.clear()
        spools["a"] = 7
        loom.deeds().clear()
        self.assertEqual(told(loom), WHOLE)

    def test_the_loom_is_unchanged(self):
        for loom in looms():
            ahead = asked(loom)
            told(loom)
            self.assertEqual(asked(loom), ahead)


class Brought(unittest.TestCase):
    def refuse(self, text):
        with self.subTest(text=text):
            with self.assertRaises(BadText) as caught:
                brought(text)
            self.assertIs(type(caught.exception), BadText)

    def test_as_it_was(self):
        for loom in looms():
            again = brought(told(loom))
            self.assertIsInstance(again, Loom)
            self.assertEqual(asked(again), asked(loom))
            self.assertEqual(told(again), told(loom))

    def test_nothing_to_redo(self):
        for loom in looms():
            if loom.deeds():
                loom.undo()
            again = brought(told(loom))
            self.assertEqual(asked(again), asked(loom))
            with self.assertRaises(NothingLeft):
                again.redo()

    def test_all_to_undo(self):
        for loom in looms():
            again = brought(told(loom))
            while loom.deeds():
                self.assertEqual(again.undo(), loom.undo())
                self.assertEqual(asked(again), asked(loom))
            with self.assertRaises(NothingLeft):
                again.undo()

    def test_it_goes_on_like_the_one_told(self):
        for loom in looms():
            again = brought(told(loom))
            wide = len(loom.tablets())
            for row in [turn * wide for turn in "fffbi"]:
                answers = []
                for each in (loom, again):
                    try:
                        answers.append(each.weave(row))
                    except ValueError as refusal:
                        answers.append(type(refusal))
                self.assertEqual(answers[0], answers[1])

    def test_two_brought_back_are_apart(self):
        one, other = brought(WHOLE), brought(WHOLE)
        one.undo()
        self.assertEqual(told(other), WHOLE)

    def test_smallest(self):
        loom = brought("loom 0\ntablet S abcd 0")
        self.assertEqual(asked(loom), asked(Loom([("S", "abcd", 0)], 0, {})))

    def test_lines_left_out(self):
        lines = WHOLE.split("\n")
        self.refuse("\n".join(lines[1:]))
        self.refuse("\n".join(lines[:6]))
        self.refuse("loom 3")
        self.refuse("loom 3\nspool a 5")
        self.refuse("loom 3\nrow f")
        self.refuse("loom 3\nflip 0")
        self.refuse("tablet S abcd 0")
        # Without one of the tablets the rows are too long, without a spool it is dry.
        for at in (1, 2, 3, 4, 6, 7):
            self.refuse("\n".join(lines[:at] + lines[at + 1:]))

    def test_lines_twice(self):
        lines = WHOLE.split("\n")
        for at in range(8):
            self.refuse("\n".join(lines[:at + 1] + lines[at:]))

    def test_lines_in_another_order(self):
        lines = WHOLE.split("\n")
        for one, other in itertools.combinations(range(8), 2):
            if (one, other) != (6, 7):
                mixed = list(lines)
                mixed[one], mixed[other] = mixed[other], mixed[one]
                self.refuse("\n".join(mixed))
        for at in range(8):
            self.refuse("\n".join(lines[:at] + lines[at + 1:] + [lines[at]]))
            self.refuse("\n".join(lines[:at] + lines[at + 1:9] + [lines[at]] + lines[9:]))

    def test_numbers(self):
        for wrong in ("", "00", "01", "007", "+1", "-1", "1.", "1_0", "a", "1000000000", "9999999999", "0000000000",
                      "1e3", "9" * 5000, "1" * 100000):
            self.refuse(f"loom {wrong}\ntablet S abcd 0")
            self.refuse(f"loom 1\nspool a {wrong}\ntablet S abcd 0")
            self.refuse(f"loom 1\ntablet S abcd {wrong}")
            self.refuse(f"loom 1\ntablet S abcd 0\nflip {wrong}")
        for right in (0, 1, 10, 99, MOST):
            text = f"loom {right}\nspool a {right}\ntablet S abcd 0\nflip 0"
            self.assertEqual(told(brought(text)), text)
            self.assertEqual(brought(text).rest("a"), right)

    def test_blanks_and_line_feeds(self):
        lines = WHOLE.split("\n")
        for at, line in enumerate(lines):
            for wrong in (" " + line, line + " ", line.replace(" ", "  ", 1), line.replace(" ", "", 1), line + "\n",
                          "\n" + line, line.replace(" ", "\n", 1), line + " 0", line + " a", line.upper(), ""):
                self.refuse("\n".join(lines[:at] + [wrong] + lines[at + 1:]))
        self.refuse("")
        self.refuse("\n")
        self.refuse(" ")
        self.refuse(WHOLE + "\n")
        self.refuse("\n" + WHOLE)
        self.refuse(WHOLE + " ")
        self.refuse(" " + WHOLE)
        self.refuse(WHOLE.replace("\n", " "))

    def test_words(self):
        for line in ("row", "row ", "row fbf", "row f", "row fx", "row FB", "flip", "flip ", "flip 2", "flip 9",
                     "flip f", "flip -1", "roww fb", "undo", "weave fb", "row fb fb", "flip 0 1", "loom 3",
                     "spool z 1", "tablet S abcd 0\nrow fb"):
            self.refuse("\n".join(["loom 9", "spool a 99", "spool b 99", "spool c 99", "spool d 99", "tablet S abcd 0",
                                   "tablet Z aabb 1", line]))
        for head in ("", "Loom 3", "loom", "loom ", "loom 3 3", "loon 3", "3"):
            self.refuse(head + "\ntablet S abcd 0")

    def test_tablets(self):
        for words in ("S abcd 4", "X abcd 0", "s abcd 0", "S abc 0", "S abcde 0", "S abcD 0", "S abc? 0", "S abcd",
                      "S", "", "abcd S 0", "S abcd 0 0", "S  0", "SZ abcd 0", "S abcd 10"):
            self.refuse("loom 3\ntablet " + words)
        for lay, stand in itertools.product("SZ", "0123"):
            text = f"loom 3\ntablet {lay} azby {stand}"
            self.assertEqual(brought(text).tablets(), [(lay, "azby", int(stand))])

    def test_how_many_tablets(self):
        self.refuse("loom 3")
        for many in range(1, 9):
            text = "loom 3" + "\ntablet S abcd 0" * many
            self.assertEqual(len(brought(text).tablets()), many)
        for many in (9, 10, 100):
            self.refuse("loom 3" + "\ntablet S abcd 0" * many)
        self.refuse("loom 3\n" + "tablet S abcd 0\n" * 9 + "flip 0")

    def test_spools(self):
        for lines in ("a 1\nspool a 1", "a 1\nspool a 2", "b 1\nspool a 1", "a 1\nspool c 1\nspool b 1", "A 1", "? 1",
                      "ab 1", " 1", "a", "1 a", "a 1 1", "` 1", "{ 1", "a b"):
            self.refuse("loom 3\nspool " + lines + "\ntablet S abcd 0")
        text = "loom 3\n" + "\n".join(f"spool {colour} 1" for colour in COLOURS) + "\ntablet S abcd 0"
        self.assertEqual(told(brought(text)), text)

    def test_deeds_that_cannot_be_done(self):
        head = "loom 1\nspool a 5\nspool b 5\nspool c 5\nspool d 5\ntablet S abcd 0\n"
        brought(head + "row f\nrow b\nrow i")
        brought(head + "row f\nflip 0\nrow f\nrow i")
        for deeds in ("row f\nrow f", "row f\nflip 0\nrow b", "row f\nrow b\nrow i\nrow i", "row f\nrow b\nrow f",
                      "row ff", "row ", "flip 1", "row f\nflip 8"):
            self.refuse(head + deeds)
        self.refuse("loom 1\ntablet S abcd 0\nrow i")
        self.refuse("loom 0\nspool a 9\ntablet S aaaa 0\nrow f")

    def test_just_what_a_loom_tells(self):
        """Texts with a sign taken away, put in or exchanged are read as told again, or refused."""
        text = "loom 1\nspool a 9\nspool b 10\ntablet S abba 0\ntablet Z baab 3\nrow fi\nflip 1"
        brought(text)
        signs = "\n 019-abzfibSZ?lt"
        changed = {text[:at] + text[at + 1:] for at in range(len(text))}
        changed |= {text[:at] + sign + text[at:] for at in range(len(text) + 1) for sign in signs}
        changed |= {text[:at] + sign + text[at + 1:] for at in range(len(text)) for sign in signs}
        read = 0
        for other in changed:
            try:
                loom = brought(other)
            except BadText:
                continue
            self.assertEqual(told(loom), other)
            read += 1
        self.assertGreater(read, 20)
        self.assertLess(read, len(changed) // 2)


if __name__ == "__main__":
    unittest.main()
