"""Programs of turnings: points 9 and 10, and point 1 for them."""

import copy
import unittest

from wornband.errors import BadRow, TooLong
from wornband.turnings import laid, opposed, tally

NESTED = [
    ("row", "fb"),
    ("times", 2, [("all", "b"), ("mirror", [("row", "fi"), ("times", 2, [("row", "ib")])])]),
]
NESTED_ROWS = ["fb"] + ["bb", "fi", "ib", "ib", "if", "if", "bi"] * 2


def deep(many, programs, inmost):
    """So many programs within one another, all but the inmost of one times statement."""
    program = inmost
    for at in range(programs - 1):
        program = [("times", many, program)]
    return program


def mirrors(programs, inmost):
    program = inmost
    for at in range(programs - 1):
        program = [("mirror", program)]
    return program


class Tally(unittest.TestCase):
    def test_each_statement(self):
        self.assertEqual(tally([("row", "f")]), 1)
        self.assertEqual(tally([("all", "i")]), 1)
        self.assertEqual(tally([("times", 3, [("row", "f"), ("all", "b")])]), 6)
        self.assertEqual(tally([("mirror", [("row", "f"), ("all", "b"), ("row", "i")])]), 6)

    def test_no_statements(self):
        self.assertEqual(tally([]), 0)
        self.assertEqual(tally([("times", 9, [])]), 0)
        self.assertEqual(tally([("mirror", [])]), 0)

    def test_times_0_1_and_99(self):
        for many in (0, 1, 99):
            self.assertEqual(tally([("times", many, [("row", "f")])]), many)
            self.assertEqual(tally([("times", many, [("row", "f"), ("row", "b")])]), 2 * many)

    def test_several_statements(self):
        self.assertEqual(tally(NESTED), 15)
        self.assertEqual(tally([("row", "f")] * 5 + [("times", 0, [("row", "f")])] + [("all", "f")] * 4), 9)

    def test_eight_programs_within_one_another(self):
        self.assertEqual(tally(deep(2, 8, [("row", "f")])), 128)
        self.assertEqual(tally(mirrors(8, [("all", "f"), ("row", "b")])), 256)
        program = [("row", "f")]
        for at in range(3):
            program = [("mirror", [("times", 5, program)]), ("all", "i")]
        self.assertEqual(tally([("times", 2, program)]), 2 * (10 * (10 * (10 + 1) + 1) + 1))

    def test_far_beyond_240(self):
        self.assertEqual(tally(deep(99, 8, [("row", "f"), ("all", "b")])), 2 * 99 ** 7)
        self.assertEqual(tally([("row", "f")] * 241), 241)

    def test_rows_that_fit_no_number_of_tablets_count(self):
        self.assertEqual(tally([("row", ""), ("row", "f"), ("row", "ff"), ("row", "no turns at all")]), 4)

    def test_times_beyond_the_bounds(self):
        self.assertEqual(tally([("times", 100, [("row", "f")])]), 100)
        self.assertEqual(tally([("row", "f"), ("times", -1, [("row", "f")])]), 1)

    def test_the_program_is_unchanged(self):
        program = copy.deepcopy(NESTED)
        tally(program)
        self.assertEqual(program, NESTED)

    def test_asked_again_after_a_body_was_changed(self):
        program = copy.deepcopy(NESTED)
        tally(program)
        program[1][2].append(("row", "ff"))
        self.assertEqual(tally(program), 17)


class Opposed(unittest.TestCase):
    def test_no_rows(self):
        self.assertEqual(opposed([]), [])

    def test_one_row(self):
        self.assertEqual(opposed(["fbi"]), ["bfi"])

    def test_several_rows(self):
        rows = opposed(["fbi", "iff", "bbb"])
        self.assertEqual(rows, ["fff", "ibb", "bfi"])
        self.assertIs(type(rows), list)

    def test_twice_it_is_the_rows_again(self):
        for rows in ([], ["f"], ["fb", "ii", "fi"], NESTED_ROWS):
            self.assertEqual(opposed(opposed(rows)), rows)

    def test_the_rows_are_unchanged(self):
        rows = ["fb", "ii", "fi"]
        opposed(rows).append("bb")
        self.assertEqual(rows, ["fb", "ii", "fi"])
        self.assertEqual(opposed(rows), ["bi", "ii", "bf"])


class Laid(unittest.TestCase):
    def refuse(self, error, program, width):
        with self.subTest(program=str(program)[:80], width=width):
            with self.assertRaises(error):
                laid(program, width)

    def test_row(self):
        self.assertEqual(laid([("row", "i")], 1), ["i"])
        self.assertEqual(laid([("row", "fbifbiff")], 8), ["fbifbiff"])

    def test_all(self):
        for turn in "fbi":
            for width in (1, 2, 8):
                self.assertEqual(laid([("all", turn)], width), [turn * width])

    def test_times(self):
        self.assertEqual(laid([("times", 3, [("row", "f"), ("all", "b")])], 1), ["f", "b"] * 3)
        self.assertEqual(laid([("times", 2, [("all", "b"), ("row", "fbifbiff")])], 8), ["b" * 8, "fbifbiff"] * 2)
        for many in (0, 1, 99):
            self.assertEqual(laid([("times", many, [("row", "fb")])], 2), ["fb"] * many)

    def test_mirror(self):
        self.assertEqual(laid([("mirror", [("row", "f"), ("all", "i"), ("row", "b")])], 1), list("fibfib"))
        self.assertEqual(
            laid([("mirror", [("row", "fbifbiff"), ("all", "f")])], 8),
            ["fbifbiff", "f" * 8, "b" * 8, "bfibfibb"],
        )

    def test_no_statements(self):
        for program in ([], [("times", 99, [])], [("mirror", [])], [("times", 0, [("all", "f")])]):
            self.assertEqual(laid(program, 3), [])

    def test_a_mirror_within_a_mirror(self):
        self.assertEqual(
            laid([("mirror", [("row", "ff"), ("mirror", [("row", "fi"), ("row", "bi")])])], 2),
            ["ff", "fi", "bi", "fi", "bi", "fi", "bi", "fi", "bi", "bb"],
        )

    def test_a_mirror_within_times_and_times_within_a_mirror(self):
        self.assertEqual(laid([("times", 2, [("mirror", [("row", "fi")])])], 2), ["fi", "bi"] * 2)
        self.assertEqual(laid([("mirror", [("times", 2, [("row", "fi")])])], 2), ["fi", "fi", "bi", "bi"])

    def test_all_within_one_another(self):
        rows = laid(NESTED, 2)
        self.assertEqual(rows, NESTED_ROWS)
        self.assertIs(type(rows), list)

    def test_eight_programs_within_one_another(self):
        self.assertEqual(laid(deep(2, 8, [("row", "f")]), 1), ["f"] * 128)
        self.assertEqual(laid(mirrors(8, [("all", "f")]), 3), ["fff", "bbb"] * 64)

    def test_just_240_rows_and_241(self):
        self.assertEqual(laid([("all", "f")] * 240, 2), ["ff"] * 240)
        self.assertEqual(laid([("mirror", [("times", 60, [("row", "fi"), ("all", "b")])])], 2),
                         ["fi", "bb"] * 60 + ["ff", "bi"] * 60)
        self.refuse(TooLong, [("all", "f")] * 241, 2)
        self.refuse(TooLong, [("mirror", [("times", 60, [("row", "fi"), ("all", "b")])]), ("row", "ff")], 2)
        self.refuse(TooLong, [("mirror", [("all", "f")] * 121)], 2)

    def test_a_very_great_count_is_refused_soon(self):
        self.refuse(TooLong, deep(99, 8, [("row", "f")]), 1)
        self.refuse(TooLong, [("mirror", deep(99, 7, [("row", "f")]))], 1)

    def test_a_very_great_body_that_comes_nought_times(self):
        self.assertEqual(laid([("times", 0, deep(99, 7, [("row", "f")])), ("all", "b")], 1), ["b"])
        self.assertEqual(laid([("times", 99, [("times", 0, deep(99, 6, [("all", "f")]))])], 1), [])
        self.assertEqual(laid([("mirror", [("times", 0, deep(99, 6, [("all", "f")]))])], 1), [])

    def test_rows_that_are_not_one_turn_for_each_tablet(self):
        others = [sign for sign in map(chr, range(32, 127)) if sign not in "fbi%"] + ["\n"]
        texts = ["", "f", "fb", "fbif", "fbifbiff", "f" * 240, " fbi", "fbi ", "fbi\n", "\nfbi", "fb\n"]
        for text in texts + ["fb" + sign for sign in others] + [sign + "fb" for sign in others]:
            self.refuse(BadRow, [("row", text)], 3)
        for text in ("", "ff", "x", "*"):
            self.refuse(BadRow, [("row", text)], 1)
        for text in ("", "f" * 7, "f" * 9, "fffffffF"):
            self.refuse(BadRow, [("row", text)], 8)

    def test_bad_rows_wherever_they_stand(self):
        bad = ("row", "fbx")
        self.refuse(BadRow, [("row", "fbi"), ("all", "f"), bad], 3)
        self.refuse(BadRow, [bad, ("row", "fbi")], 3)
        self.refuse(BadRow, [("times", 0, [bad])], 3)
        self.refuse(BadRow, [("times", 0, [("times", 2, [("all", "f")]), ("mirror", [bad])])], 3)
        self.refuse(BadRow, [("times", 2, [("row", "fbi"), bad])], 3)
        self.refuse(BadRow, [("mirror", [("row", "fbi"), bad])], 3)
        self.refuse(BadRow, [("times", 0, [("row", "fbi")]), ("mirror", []), ("times", 0, [bad])], 3)
        self.refuse(BadRow, deep(0, 8, [bad]), 3)
        self.refuse(BadRow, mirrors(7, [bad]), 3)

    def test_too_long_ahead_of_a_bad_row(self):
        bad = ("row", "fbx")
        self.refuse(TooLong, [bad] * 241, 3)
        self.refuse(TooLong, [bad] + [("all", "f")] * 240, 3)
        self.refuse(TooLong, [("times", 0, [bad])] + [("all", "f")] * 241, 3)
        self.refuse(TooLong, deep(99, 8, [bad]), 3)
        self.refuse(BadRow, [bad] * 240, 3)

    def test_beyond_the_bounds_nothing_is_refused(self):
        self.assertEqual(laid([("row", "f" * 9), ("all", "b")], 9), ["f" * 9, "b" * 9])
        self.assertEqual(laid([("times", 100, [("row", "f")])], 1), ["f"] * 100)
        self.assertEqual(laid([("times", -1, [("row", "f")]), ("row", "b")], 1), ["b"])
        self.assertEqual(laid(deep(1, 12, [("row", "f")]), 1), ["f"])

    def test_as_many_rows_as_the_tally(self):
        for program in ([], NESTED, deep(2, 8, [("row", "fb")]), mirrors(8, [("all", "f")])):
            self.assertEqual(len(laid(program, 2)), tally(program))

    def test_the_program_is_unchanged(self):
        program = copy.deepcopy(NESTED)
        laid(program, 2)
        self.assertEqual(program, NESTED)
        self.refuse(BadRow, program, 3)
        self.assertEqual(program, NESTED)

    def test_asked_again_after_what_was_told_was_changed(self):
        program = copy.deepcopy(NESTED)
        rows = laid(program, 2)
        rows[0] = "x"
        rows.append("y")
        self.assertEqual(laid(program, 2), NESTED_ROWS)
        self.assertEqual(program, NESTED)

    def test_told_stays_after_the_program_was_changed(self):
        program = copy.deepcopy(NESTED)
        rows = laid(program, 2)
        program[1][2].clear()
        program.clear()
        self.assertEqual(rows, NESTED_ROWS)


if __name__ == "__main__":
    unittest.main()
