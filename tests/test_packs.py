"""Packs: point 8, and point 1 for them."""

import itertools
import unittest

from wornband.packs import called, grouped, parted, unpacked



def long_plan(tall, wide):
    """Rows in which tablets turn alike where k & 3 is, and 0 and 3 too."""
    return ["".join("fbi"[(at + (k & 3) * at + (k & 3)) % 3] for k in range(wide)) for at in range(tall)]


class Grouped(unittest.TestCase):
    def check(self, plan, width, packs, calls):
        told, calls_told = grouped(plan, width), called(plan, width)
        self.assertEqual((told, calls_told), (packs, calls))
        self.assertIs(type(told), list)
        self.assertIs(type(calls_told), list)
        for pack in told:
            self.assertIs(type(pack), list)
            for k in pack:
                self.assertIs(type(k), int)
        for call in calls_told:
            self.assertIs(type(call), str)
        self.assertEqual(unpacked(told, calls_told), plan)

    def test_one_tablet(self):
        self.check(["f", "b", "i"], 1, [[0]], ["f", "b", "i"])

    def test_eight_tablets_of_one_pack(self):
        self.check(["f" * 8, "i" * 8], 8, [list(range(8))], ["f", "i"])

    def test_eight_tablets_of_eight_packs(self):
        columns = ["ff", "fb", "fi", "bf", "bb", "bi", "if", "ib"]
        plan = ["".join(turns) for turns in zip(*columns)]
        self.check(plan, 8, [[k] for k in range(8)], plan)

    def test_packs_that_lie_between_one_another(self):
        plan = ["fbffbibf", "ifibfbfi", "bbbibfib"]
        self.check(plan, 8, [[0, 2, 7], [1, 4], [3], [5], [6]], ["fbfib", "ifbbf", "bbifi"])
        self.check(["fbfb", "bibi"], 4, [[0, 2], [1, 3]], ["fb", "bi"])
        self.check(["bffbi", "iffii"], 5, [[0, 3], [1, 2], [4]], ["bfi", "ifi"])

    def test_order_is_that_of_the_first_tablets_not_of_the_turns(self):
        self.check(["ibf"], 3, [[0], [1], [2]], ["ibf"])
        self.check(["fbi"], 3, [[0], [1], [2]], ["fbi"])
        self.check(["ifii"], 4, [[0, 2, 3], [1]], ["if"])

    def test_columns_that_differ_in_the_first_turn_alone(self):
        self.check(["fb", "ff", "ii", "bb"], 2, [[0], [1]], ["fb", "ff", "ii", "bb"])

    def test_columns_that_differ_in_the_last_turn_alone(self):
        self.check(["ff", "ii", "bb", "bi"], 2, [[0], [1]], ["ff", "ii", "bb", "bi"])

    def test_columns_with_the_same_turns_in_another_order(self):
        self.check(["fb", "bf"], 2, [[0], [1]], ["fb", "bf"])

    def test_no_rows(self):
        self.check([], 1, [[0]], [])
        self.check([], 8, [list(range(8))], [])

    def test_240_rows(self):
        plan = long_plan(240, 8)
        self.check(plan, 8, [[0, 3, 4, 7], [1, 5], [2, 6]], [row[:3] for row in plan])

    def test_every_plan_of_two_rows_for_three_tablets(self):
        rows = ["".join(turns) for turns in itertools.product("fbi", repeat=3)]
        for plan in itertools.product(rows, repeat=2):
            packs, calls = grouped(list(plan), 3), called(list(plan), 3)
            firsts = [min(j for j in range(3) if [r[j] for r in plan] == [r[k] for r in plan]) for k in range(3)]
            self.assertEqual(packs, [[k for k in range(3) if firsts[k] == first] for first in sorted(set(firsts))])
            self.assertEqual(calls, ["".join(row[pack[0]] for pack in packs) for row in plan])
            self.assertEqual(unpacked(packs, calls), list(plan))

    def test_the_plan_is_unchanged(self):
        plan = ["fbf", "bib"]
        grouped(plan, 3)
        called(plan, 3)
        self.assertEqual(plan, ["fbf", "bib"])

    def test_asked_again_after_what_was_told_was_changed(self):
        plan = ["fbf", "bib"]
        packs, calls = grouped(plan, 3), called(plan, 3)
        packs[0].append(9)
        packs.append([7])
        calls[0] = "x"
        calls.clear()
        self.assertEqual(grouped(plan, 3), [[0, 2], [1]])
        self.assertEqual(called(plan, 3), ["fb", "bi"])

    def test_told_stays_after_the_plan_was_changed(self):
        plan = ["fbf", "bib"]
        packs, calls = grouped(plan, 3), called(plan, 3)
        plan[0] = "fff"
        plan.append("iii")
        self.assertEqual((packs, calls), ([[0, 2], [1]], ["fb", "bi"]))


class Unpacked(unittest.TestCase):
    def test_of_packs_and_calls(self):
        plan = unpacked([[0, 2, 7], [1, 4], [3, 6], [5]], ["fbib", "bfii", "iffb"])
        self.assertEqual(plan, ["fbfibbif", "bfbifiib", "ififfbfi"])
        self.assertIs(type(plan), list)

    def test_no_rows(self):
        self.assertEqual(unpacked([[0]], []), [])
        self.assertEqual(unpacked([[0, 1, 2, 3, 4, 5, 6, 7]], []), [])

    def test_packs_and_calls_are_unchanged(self):
        packs, calls = [[0, 2], [1]], ["fb", "bi"]
        unpacked(packs, calls)
        self.assertEqual((packs, calls), ([[0, 2], [1]], ["fb", "bi"]))

    def test_asked_again_after_what_was_told_was_changed(self):
        packs, calls = [[0, 2], [1]], ["fb", "bi"]
        plan = unpacked(packs, calls)
        plan[0] = "x"
        plan.append("y")
        self.assertEqual(unpacked(packs, calls), ["fbf", "bib"])

    def test_told_stays_after_packs_and_calls_were_changed(self):
        packs, calls = [[0, 2], [1]], ["fb", "bi"]
        plan = unpacked(packs, calls)
        packs[0].clear()
        calls.clear()
        self.assertEqual(plan, ["fbf", "bib"])


class Parted(unittest.TestCase):
    PLAN = ["fbff", "bbbi", "iiii", "fffb"]

    def test_the_first_row(self):
        self.assertEqual(parted(self.PLAN, 0, 1), 0)
        self.assertEqual(parted(self.PLAN, 1, 0), 0)

    def test_a_row_between(self):
        self.assertEqual(parted(self.PLAN, 0, 3), 1)
        self.assertEqual(parted(self.PLAN, 3, 2), 1)

    def test_the_last_row(self):
        self.assertEqual(parted(["ff", "ii", "bi"], 0, 1), 2)
        self.assertEqual(parted(["f" * 8] * 239 + ["f" * 7 + "i"], 7, 0), 239)

    def test_none(self):
        self.assertIsNone(parted(self.PLAN, 0, 2))
        self.assertIsNone(parted(self.PLAN, 2, 0))
        self.assertIsNone(parted([], 0, 7))

    def test_a_tablet_and_itself(self):
        for k in range(4):
            self.assertIsNone(parted(self.PLAN, k, k))

    def test_the_plan_is_unchanged(self):
        plan = list(self.PLAN)
        parted(plan, 0, 3)
        self.assertEqual(plan, self.PLAN)

    def test_the_same_pack_just_where_nothing_parts(self):
        plan = long_plan(20, 8)
        packs = grouped(plan, 8)
        for one, other in itertools.product(range(8), repeat=2):
            together = any(one in pack and other in pack for pack in packs)
            self.assertEqual(parted(plan, one, other) is None, together)


if __name__ == "__main__":
    unittest.main()
