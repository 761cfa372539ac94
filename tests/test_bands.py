"""Bands: points 5, 6 and 7, and point 1 for them."""

import unittest

from wornband.bands import column, peaks, rows_of, twists, woven

DRAFT = [("S", "abcd", 0), ("Z", "efgh", 3)]
PLAN = ["ff", "fb", "ii", "bf", "bf"]
BAND = [
    [("b", "d", "s"), ("e", "g", "z")],
    [("c", "a", "s"), ("h", "f", "s")],
    [("c", "a", "o"), ("h", "f", "o")],
    [("b", "d", "z"), ("e", "g", "z")],
    [("a", "c", "z"), ("f", "h", "z")],
]
EIGHT = [("SZ"[k & 1], "abcd", k & 3) for k in range(8)]


def long_plan(tall, wide):
    return ["".join("fbi"[(at * 7 + k * at + k) % 3] for k in range(wide)) for at in range(tall)]


class Woven(unittest.TestCase):
    def check_kinds(self, band):
        self.assertIs(type(band), list)
        for pick in band:
            self.assertIs(type(pick), list)
            for place in pick:
                self.assertIs(type(place), tuple)
                self.assertEqual(len(place), 3)

    def test_no_rows(self):
        for draft in (DRAFT[:1], DRAFT, EIGHT):
            with self.subTest(draft=draft):
                self.assertEqual(woven(draft, []), [])

    def test_one_row_with_each_turn_on_both_lays(self):
        draft = [
            ("S", "abcd", 0), ("S", "abcd", 0), ("S", "abcd", 0),
            ("Z", "efgh", 3), ("Z", "efgh", 3), ("Z", "efgh", 3),
        ]
        self.assertEqual(woven(draft, ["fbifbi"]), [[
            ("b", "d", "s"), ("d", "b", "z"), ("a", "c", "o"),
            ("e", "g", "z"), ("g", "e", "s"), ("h", "f", "o"),
        ]])

    def test_several_rows_go_on_from_where_the_tablets_stand(self):
        self.assertEqual(woven(DRAFT, PLAN), BAND)

    def test_lists_of_lists_of_tuples(self):
        self.check_kinds(woven(DRAFT, PLAN))
        self.check_kinds(woven(DRAFT[:1], ["i"]))
        self.check_kinds(woven(DRAFT, []))

    def test_a_plan_cut_in_two(self):
        behind = [("S", "abcd", 2), ("Z", "efgh", 3)]
        self.assertEqual(woven(DRAFT, PLAN[:2]) + woven(behind, PLAN[2:]), BAND)

    def test_240_rows(self):
        band = woven(EIGHT, ["f" * 8] * 240)
        self.assertEqual(len(band), 240)
        self.check_kinds(band)
        for at, pick in enumerate(band):
            wanted = []
            for k in range(8):
                stand = (k + at + 1) % 4
                wanted.append(("abcd"[stand], "cdab"[stand], "sz"[k & 1]))
            self.assertEqual(pick, wanted)

    def test_somewhat_more_rows_and_tablets_are_not_refused(self):
        band = woven([("Z", "abcd", 0)] * 9, ["b" * 9] * 241)
        self.assertEqual(len(band), 241)
        self.assertEqual(band[240], [("d", "b", "s")] * 9)

    def test_nothing_handed_in_is_changed(self):
        draft, plan = list(DRAFT), list(PLAN)
        woven(draft, plan)
        self.assertEqual((draft, plan), (DRAFT, PLAN))

    def test_asked_again_after_the_told_was_changed(self):
        band = woven(DRAFT, PLAN)
        band[0][0] = ("x", "x", "x")
        band[1].clear()
        band.append([])
        self.assertEqual(woven(DRAFT, PLAN), BAND)

    def test_picks_of_a_band_are_lists_of_their_own(self):
        band = woven([("S", "aaaa", 0)], ["i", "i", "i"])
        band[0].append("more")
        self.assertEqual(band[1:], [[("a", "a", "o")], [("a", "a", "o")]])

    def test_the_told_stays_where_the_handed_in_is_changed(self):
        draft, plan = list(DRAFT), list(PLAN)
        band = woven(draft, plan)
        draft.clear()
        plan.clear()
        self.assertEqual(band, BAND)


class TwistsAndPeaks(unittest.TestCase):
    def check(self, draft, plan, wanted_twists, wanted_peaks):
        with self.subTest(draft=draft, plan=plan):
            self.assertEqual(twists(draft, plan), wanted_twists)
            self.assertEqual(peaks(draft, plan), wanted_peaks)

    def test_no_rows(self):
        self.check(DRAFT[:1], [], [0], [0])
        self.check(EIGHT, [], [0] * 8, [0] * 8)

    def test_idle_rows(self):
        self.check(DRAFT, ["ii"] * 5, [0, 0], [0, 0])

    def test_one_turn_on_both_lays(self):
        draft = [("S", "abcd", 2)] * 3 + [("Z", "abcd", 1)] * 3
        self.check(draft, ["fbifbi"], [1, -1, 0, -1, 1, 0], [1, 1, 0, 1, 1, 0])

    def test_a_peak_ahead_of_the_end(self):
        self.check(DRAFT, ["ff", "ff", "fi", "bb", "bb", "ib", "bb"], [0, 2], [3, 2])
        self.check([("S", "abcd", 0)], ["f", "f", "f", "b", "b", "b", "b"], [-1], [3])

    def test_a_peak_below_nought_ahead_of_the_end(self):
        self.check(DRAFT, ["bf", "bf", "bf", "fb", "fb", "fb", "fb"], [1, 1], [3, 3])

    def test_a_peak_at_the_end(self):
        self.check(DRAFT, ["fb", "ib", "fi", "ff"], [3, 1], [3, 2])

    def test_twists_below_nought(self):
        self.check(DRAFT, ["bf", "bf", "if"], [-2, -3], [2, 3])

    def test_240_rows(self):
        self.check(EIGHT, ["f" * 8] * 240, [240, -240] * 4, [240] * 8)
        self.check(EIGHT, ["f" * 8] * 120 + ["b" * 8] * 120, [0] * 8, [120] * 8)

    def test_lists_are_told(self):
        for told in (twists(DRAFT, PLAN), peaks(DRAFT, PLAN), twists(DRAFT, []), peaks(DRAFT, [])):
            self.assertIs(type(told), list)
            for number in told:
                self.assertIs(type(number), int)

    def test_nothing_handed_in_is_changed(self):
        draft, plan = list(DRAFT), list(PLAN)
        twists(draft, plan)
        peaks(draft, plan)
        self.assertEqual((draft, plan), (DRAFT, PLAN))

    def test_asked_again_after_the_told_was_changed(self):
        for asked, wanted in ((twists, [0, -2]), (peaks, [2, 2])):
            with self.subTest(asked=asked.__name__):
                told = asked(DRAFT, PLAN)
                told[0] = 99
                told.append(7)
                self.assertEqual(asked(DRAFT, PLAN), wanted)


class Columns(unittest.TestCase):
    def test_column(self):
        self.assertEqual([column(PLAN, k) for k in range(2)], ["ffibb", "fbiff"])
        self.assertEqual(column(["fbifbiff"], 7), "f")
        self.assertEqual([column(["fbifbiff", "iiiibbbb"], k) for k in (0, 3, 4, 7)], ["fi", "fi", "bb", "fb"])

    def test_column_of_no_rows(self):
        self.assertEqual(column([], 0), "")
        self.assertEqual(column([], 7), "")

    def test_rows_of(self):
        self.assertEqual(rows_of(["ffibb", "fbiff"]), PLAN)
        self.assertEqual(rows_of(["fbi"]), ["f", "b", "i"])
        self.assertEqual(rows_of(["f", "b", "i", "f", "b", "i", "f", "f"]), ["fbifbiff"])

    def test_rows_of_empty_columns(self):
        self.assertEqual(rows_of([""]), [])
        self.assertEqual(rows_of([""] * 8), [])

    def test_rows_of_a_number_beyond_the_bounds_is_not_refused(self):
        self.assertEqual(rows_of([]), [])
        self.assertEqual(rows_of(["fb"] * 9), ["f" * 9, "b" * 9])

    def test_each_is_the_way_back_of_the_other(self):
        for wide in range(1, 9):
            for tall in (0, 1, 2, 17, 240):
                with self.subTest(wide=wide, tall=tall):
                    plan = long_plan(tall, wide)
                    columns = [column(plan, k) for k in range(wide)]
                    self.assertEqual([len(turns) for turns in columns], [tall] * wide)
                    self.assertEqual(rows_of(columns), plan)
                    self.assertEqual([column(rows_of(columns), k) for k in range(wide)], columns)

    def test_kinds(self):
        self.assertIs(type(column(PLAN, 0)), str)
        self.assertIs(type(rows_of(["ffi"])), list)
        self.assertIs(type(rows_of([""])), list)

    def test_nothing_handed_in_is_changed(self):
        plan, columns = list(PLAN), ["ffibb", "fbiff"]
        column(plan, 1)
        rows_of(columns)
        self.assertEqual(plan, PLAN)
        self.assertEqual(columns, ["ffibb", "fbiff"])

    def test_asked_again_after_the_told_was_changed(self):
        columns = ["ffibb", "fbiff"]
        plan = rows_of(columns)
        plan.clear()
        self.assertEqual(rows_of(columns), PLAN)


if __name__ == "__main__":
    unittest.main()
