"""Restoring: points 19, 20, 21 and 22, and point 1 for them."""

import copy
import itertools
import unittest

from tests.helpers import WORN, marks
from wornband.errors import NoSuchWay
from wornband.restorer import does, least, rank, restore, search, way, ways
from wornband.strands import left_by

TABLETS = [(lay, holes, stand) for lay in "SZ" for holes in ("abcd", "aabb") for stand in range(4)]
S0 = ("S", "abcd", 0)
Z0 = ("Z", "abcd", 0)
STRIPS = [marks(text) for text in (
    "", "???", "a??", "?b?", "??s", "??o", "x??", "??? ???", "??s ??z", "??o ??o", "b?? c??", "?a? ???", "??? a?? ???",
    "??s ??s ??s", "??o ??o ??o", "b?? ??o ???", "??? ??? ??? ???", "??? ?c? ??z ???", "a?? ??o a?? a?o",
    "??s ??s ??z ??z ??z", "??? ??? x??", "??o ??o ??o ??o",
)]


def by_hand(tablet, strip, loose, bound, text):
    """Whether a text does, from the document's words alone."""
    if len(text) != len(strip) or any(sign not in "fbi" for sign in text):
        return False
    places = left_by((tablet, text))
    if any(left not in ("?", sign) for place, mark in zip(places, strip) for sign, left in zip(place, mark)):
        return False
    if "i" * (loose + 1) in text:
        return False
    one = {"f": 1, "b": -1, "i": 0} if tablet[0] == "S" else {"f": -1, "b": 1, "i": 0}
    return all(abs(sum(one[turn] for turn in text[:cut])) <= bound for cut in range(len(text) + 1))


def texts_of(long):
    """All texts of so many turns, in the order of the columns."""
    return ["".join(turns) for turns in itertools.product("fbi", repeat=long)]


def all_by_hand(tablet, strip, loose, bound):
    """All columns that do, in their order."""
    return [text for text in texts_of(len(strip)) if by_hand(tablet, strip, loose, bound, text)]


def state_by_hand(tablet, text):
    one = 1 if tablet[0] == "S" else -1
    return (one * (text.count("f") - text.count("b")), len(text) - len(text.rstrip("i")))


def search_by_hand(tablet, strip, loose, bound):
    lists = []
    for long in range(len(strip) + 1):
        columns = all_by_hand(tablet, strip[:long], loose, bound)
        lists.append(sorted({state_by_hand(tablet, text) for text in columns}))
        if not columns:
            break
    return lists


def cases():
    """Tablets, strips, loosenesses and bounds, to be gone through by hand."""
    for strip in STRIPS:
        tablets = TABLETS if len(strip) < 2 else TABLETS[::5]
        for tablet, loose, bound in itertools.product(tablets, range(4), range(len(strip) + 2)):
            yield tablet, strip, loose, bound


def lists_of_pairs(test, lists):
    test.assertIs(type(lists), list)
    for states in lists:
        test.assertIs(type(states), list)
        test.assertTrue(all(type(state) is tuple and list(map(type, state)) == [int, int] for state in states))


class Does(unittest.TestCase):
    def yes(self, *asked):
        self.assertIs(does(*asked), True, asked)

    def no(self, *asked):
        self.assertIs(does(*asked), False, asked)

    def test_no_marks(self):
        self.yes(S0, [], 0, 0, "")
        self.no(S0, [], 3, 60, "f")
        self.no(S0, [], 3, 60, " ")

    def test_both_lays_and_every_stand(self):
        for stand in range(4):
            for lay, turn, back in (("S", "f", "b"), ("Z", "b", "f")):
                tablet = (lay, "abcd", stand)
                face = "abcd"[(stand + (1 if turn == "f" else 3)) % 4]
                self.yes(tablet, [(face, "?", "s")], 0, 1, turn)
                self.no(tablet, [(face, "?", "s")], 0, 1, back)
                self.no(tablet, [(face, "?", "z")], 0, 1, turn)
                self.yes(tablet, [("?", "abcd"[(stand + 2) % 4], "o")], 1, 0, "i")
                self.no(tablet, [("?", "abcd"[stand], "o")], 1, 0, "i")

    def test_texts_that_are_no_columns(self):
        strip = [WORN] * 3
        self.yes(S0, strip, 3, 3, "fbi")
        for text in ("", "f", "fb", "fbif", "fbifbi", "fbx", "FBI", "fb ", " fb", "f\nb", "fb\n", "???", "123", "fbI",
                     "\n\n\n"):
            self.no(S0, strip, 3, 3, text)
        self.no(S0, strip, 3, 3, "f" * 100000)

    def test_the_looseness_just_kept_and_just_broken(self):
        strip = [WORN] * 12
        for loose in range(4):
            run, more = "i" * loose, "i" * (loose + 1)
            for text in (run + "fb" * 6, "fb" * 6 + run, "f" + run + "b" + run + "fb" * 3):
                self.yes(S0, [WORN] * len(text), loose, 5, text)
            for text in (more + "fb" * 5, "fb" * 5 + more, "f" + more + "b" + run + "fb" * 3):
                self.no(S0, [WORN] * len(text), loose, 5, text)
        self.yes(S0, strip, 1, 12, "ifibififibif")
        self.no(S0, strip, 1, 12, "ifibifiiibif")

    def test_the_bound_just_kept_and_just_broken(self):
        for lay, turn, back in itertools.product("SZ", "fb", "fb"):
            tablet = (lay, "abcd", 1)
            for many in (1, 2, 5, 59):
                if turn != back:
                    text = turn * many + back
                    self.yes(tablet, [WORN] * len(text), 0, many, text)
                    self.no(tablet, [WORN] * len(text), 0, many - 1, text)
                    self.no(tablet, [WORN] * (2 * many), 0, many - 1, turn * many + back * many)
        self.yes(S0, [WORN] * 60, 0, 60, "f" * 60)
        self.no(S0, [WORN] * 60, 0, 59, "f" * 60)
        self.yes(S0, [WORN] * 60, 0, 60, "b" * 60)
        self.no(S0, [WORN] * 60, 0, 59, "b" * 60)
        self.yes(S0, [WORN], 1, 0, "i")
        self.no(S0, [WORN], 1, 0, "f")
        self.no(S0, [WORN], 1, 0, "b")

    def test_marks_worn_and_false(self):
        self.no(S0, marks("b?s ??? ?bo"), 1, 1, "fbi")
        self.yes(S0, marks("b?s ??? ?co"), 1, 1, "fbi")
        self.yes(S0, marks("bds acz aco"), 1, 1, "fbi")
        for at, side in itertools.product(range(3), range(3)):
            strip = [list(mark) for mark in marks("bds acz aco")]
            strip[at][side] = "x" if side < 2 else "o" if at == 0 else "s"
            self.no(S0, [tuple(mark) for mark in strip], 1, 1, "fbi")

    def test_all_short_texts(self):
        for tablet, strip, loose, bound in cases():
            if len(strip) <= 3:
                for text in texts_of(len(strip)):
                    self.assertIs(does(tablet, strip, loose, bound, text), by_hand(tablet, strip, loose, bound, text))

    def test_the_strip_is_unchanged(self):
        strip = marks("b?s ??? ?co")
        does(S0, strip, 1, 1, "fbi")
        self.assertEqual(strip, marks("b?s ??? ?co"))


class Search(unittest.TestCase):
    def test_no_marks(self):
        for tablet, loose, bound in itertools.product(TABLETS, range(4), (0, 1, 60)):
            self.assertEqual(search(tablet, [], loose, bound), [[(0, 0)]])

    def test_one_mark(self):
        self.assertEqual(search(S0, [WORN], 1, 1), [[(0, 0)], [(-1, 0), (0, 1), (1, 0)]])
        self.assertEqual(search(S0, [WORN], 0, 1), [[(0, 0)], [(-1, 0), (1, 0)]])
        self.assertEqual(search(S0, [WORN], 1, 0), [[(0, 0)], [(0, 1)]])
        self.assertEqual(search(S0, [WORN], 0, 0), [[(0, 0)], []])
        self.assertEqual(search(S0, marks("b??"), 1, 1), [[(0, 0)], [(1, 0)]])
        self.assertEqual(search(Z0, marks("b??"), 1, 1), [[(0, 0)], [(-1, 0)]])

    def test_the_first_empty_list_is_the_last_one(self):
        self.assertEqual(search(S0, marks("??s ??s ??s"), 0, 1), [[(0, 0)], [(1, 0)], []])
        self.assertEqual(search(S0, marks("x?? ??? ???"), 3, 3), [[(0, 0)], []])
        self.assertEqual(search(S0, marks("??o ??o ??o"), 1, 3), [[(0, 0)], [(0, 1)], []])
        self.assertEqual(search(S0, marks("??o ??o ??o"), 2, 3), [[(0, 0)], [(0, 1)], [(0, 2)], []])

    def test_to_the_strip_s_end(self):
        self.assertEqual(search(S0, marks("??s ??s ??s"), 0, 3), [[(0, 0)], [(1, 0)], [(2, 0)], [(3, 0)]])
        self.assertEqual(search(Z0, marks("??o ??s"), 1, 1), [[(0, 0)], [(0, 1)], [(1, 0)]])
        self.assertEqual(search(S0, marks("??z ??z"), 1, 2), [[(0, 0)], [(-1, 0)], [(-2, 0)]])

    def test_all_short_strips(self):
        for case in cases():
            told = search(*case)
            self.assertEqual(told, search_by_hand(*case), case)
            lists_of_pairs(self, told)

    def test_60_marks_wholly_worn(self):
        told = search(S0, [WORN] * 60, 3, 60)
        self.assertEqual(len(told), 61)
        lists_of_pairs(self, told)
        for many, states in enumerate(told):
            self.assertEqual(states, sorted(set(states)))
            self.assertIn((many, 0), states)
            self.assertIn((-many, 0), states)
            self.assertLessEqual(len(states), 500)
        wanted = [(twist, idle) for twist in range(-60, 61) for idle in range(4) if abs(twist) + idle <= 60]
        self.assertEqual(told[60], wanted)

    def test_60_marks_with_a_small_bound(self):
        told = search(Z0, [WORN] * 60, 0, 1)
        self.assertEqual(told, [[(0, 0)]] + [[(-1, 0), (1, 0)], [(0, 0)]] * 30)
        self.assertEqual(search(Z0, [WORN] * 60, 3, 0), [[(0, 0)], [(0, 1)], [(0, 2)], [(0, 3)], []])

    def test_the_strip_is_unchanged_and_told_again(self):
        strip = marks("??? a?? ???")
        told = search(S0, strip, 1, 2)
        again = copy.deepcopy(told)
        for states in told:
            states.clear()
        told.clear()
        self.assertEqual(search(S0, strip, 1, 2), again)
        self.assertEqual(strip, marks("??? a?? ???"))


class Ways(unittest.TestCase):
    def none_such(self, asked, *more):
        with self.subTest(asked=asked, more=more), self.assertRaises(NoSuchWay):
            asked(*more)

    def test_no_marks(self):
        for tablet in TABLETS:
            self.assertEqual(ways(tablet, [], 0, 0), 1)
            self.assertEqual(way(tablet, [], 0, 0, 0), "")
            self.assertEqual(rank(tablet, [], 0, 0, ""), 0)
            for number in (-1, 1, 10 ** 40):
                self.none_such(way, tablet, [], 0, 0, number)
            self.none_such(rank, tablet, [], 0, 0, "f")

    def test_the_order(self):
        self.assertEqual([way(S0, [WORN] * 2, 1, 2, number) for number in range(8)],
                         ["ff", "fb", "fi", "bf", "bb", "bi", "if", "ib"])
        self.assertEqual([way(Z0, [WORN] * 2, 2, 1, number) for number in range(7)],
                         ["fb", "fi", "bf", "bi", "if", "ib", "ii"])

    def test_all_columns_of_short_strips(self):
        for case in cases():
            columns = sorted(all_by_hand(*case), key=lambda text: ["fbi".index(turn) for turn in text])
            self.assertEqual(ways(*case), len(columns), case)
            numbers = range(len(columns)) if len(columns) < 30 else [*range(0, len(columns), 7), len(columns) - 1]
            for number in numbers:
                self.assertEqual(way(*case, number), columns[number])
                self.assertEqual(rank(*case, columns[number]), number)
            for number in (-1, len(columns), 10 ** 40):
                self.none_such(way, *case, number)

    def test_columns_that_do_not_do(self):
        for case in cases():
            if len(case[1]) in (1, 2) and case[0][1] == "aabb":
                for text in texts_of(len(case[1])):
                    if not by_hand(*case, text):
                        self.none_such(rank, *case, text)
        for text in ("", "f", "fbif", "FBI", "fb?", "fb ", "fb\n", "   ", "iii"):
            self.none_such(rank, S0, [WORN] * 3, 2, 3, text)

    def test_a_strip_that_nothing_does(self):
        for strip in (marks("x??"), marks("??? ?x? ???"), marks("??? ??? x??"), marks("??o ??o")):
            self.assertEqual(ways(S0, strip, 1, 60), 0)
            for number in (0, -1, 1, -10 ** 40):
                self.none_such(way, S0, strip, 1, 60, number)
            self.none_such(rank, S0, strip, 1, 60, "f" * len(strip))

    def test_a_bound_below_nought(self):
        # The twist is nought ahead of all turns, and that is above such a bound.
        for strip in ([], [WORN], [WORN] * 3):
            self.assertEqual(search(S0, strip, 3, -1), [[]])
            self.assertEqual(ways(S0, strip, 3, -1), 0)
            self.assertIs(does(S0, strip, 3, -1, "i" * len(strip)), False)
            self.none_such(way, S0, strip, 3, -1, 0)
            self.none_such(rank, S0, strip, 3, -1, "i" * len(strip))

    def test_60_marks_wholly_worn(self):
        strip = [WORN] * 60
        self.assertEqual(ways(S0, strip, 0, 60), 2 ** 60)
        self.assertEqual(ways(Z0, strip, 0, 60), 2 ** 60)
        self.assertEqual(way(S0, strip, 0, 60, 0), "f" * 60)
        self.assertEqual(way(S0, strip, 0, 60, 2 ** 60 - 1), "b" * 60)
        self.assertEqual(way(Z0, strip, 0, 60, 2 ** 59), "b" + "f" * 59)
        self.assertEqual(way(S0, strip, 0, 60, 5), "f" * 57 + "bfb")
        self.assertEqual(rank(S0, strip, 0, 60, "f" * 57 + "bfb"), 5)
        self.assertEqual(rank(S0, strip, 0, 60, "b" * 60), 2 ** 60 - 1)
        self.none_such(way, S0, strip, 0, 60, 2 ** 60)
        self.none_such(way, S0, strip, 0, 60, -1)

    def test_60_marks_wholly_worn_and_loose(self):
        strip = [WORN] * 60
        # Each run of at most three idle turns is counted by the columns that end in so many.
        ends = [1, 0, 0, 0]
        for turn in range(60):
            ends = [2 * sum(ends)] + ends[:3]
        many = sum(ends)
        self.assertEqual(ways(S0, strip, 3, 60), many)
        self.assertEqual(way(S0, strip, 3, 60, many - 1), ("iiib" * 15)[:60])
        self.assertEqual(rank(S0, strip, 3, 60, "iiib" * 15), many - 1)
        for number in (1, 12345678901234567890, many // 3, many - 2):
            text = way(Z0, strip, 3, 60, number)
            self.assertTrue(does(Z0, strip, 3, 60, text))
            self.assertEqual(rank(Z0, strip, 3, 60, text), number)
        self.none_such(way, Z0, strip, 3, 60, many)

    def test_kinds(self):
        self.assertIs(type(ways(S0, [WORN], 1, 1)), int)
        self.assertIs(type(way(S0, [WORN], 1, 1, 0)), str)
        self.assertIs(type(rank(S0, [WORN], 1, 1, "f")), int)

    def test_the_strip_is_unchanged(self):
        strip = marks("??? a?? ???")
        number = rank(S0, strip, 2, 2, way(S0, strip, 2, 2, ways(S0, strip, 2, 2) - 1))
        self.assertEqual(number, ways(S0, strip, 2, 2) - 1)
        self.assertEqual(strip, marks("??? a?? ???"))


class Restore(unittest.TestCase):
    def right(self, tablet, strip, loose):
        told = restore(tablet, strip, loose)
        self.assertIs(type(told), tuple)
        self.assertEqual(len(told), 3)
        bound, text, lists = told
        lists_of_pairs(self, lists)
        self.assertEqual(least(tablet, strip, loose), bound)
        if bound is None:
            self.assertIsNone(text)
            self.assertEqual(lists, search(tablet, strip, loose, len(strip)))
            self.assertEqual(lists[-1], [])
            return told
        self.assertEqual(text, way(tablet, strip, loose, bound, 0))
        self.assertEqual(lists, search(tablet, strip, loose, bound - 1) if bound else [])
        self.assertEqual(lists[-1:], [[]] if bound else [])
        return told

    def test_no_marks(self):
        for tablet, loose in itertools.product(TABLETS, range(4)):
            self.assertEqual(self.right(tablet, [], loose), (0, "", []))

    def test_the_bound_nought(self):
        self.assertEqual(self.right(S0, [WORN], 1), (0, "i", []))
        self.assertEqual(self.right(S0, [WORN] * 3, 3), (0, "iii", []))
        self.assertEqual(self.right(S0, marks("??o a?? ?c?"), 3), (0, "iii", []))

    def test_a_bound(self):
        self.assertEqual(self.right(S0, [WORN], 0), (1, "f", [[(0, 0)], []]))
        self.assertEqual(self.right(S0, marks("b??"), 3), (1, "f", [[(0, 0)], []]))
        self.assertEqual(self.right(Z0, marks("??s"), 3), (1, "b", [[(0, 0)], []]))
        self.assertEqual(self.right(S0, marks("??z ??z"), 0), (2, "bb", [[(0, 0)], [(-1, 0)], []]))
        self.assertEqual(self.right(S0, [WORN] * 4, 3), (1, "fbfb", [[(0, 0)], [(0, 1)], [(0, 2)], [(0, 3)], []]))
        self.assertEqual(self.right(S0, marks("??? ??s ??s"), 0), (1, "bff", [[(0, 0)], []]))

    def test_none(self):
        self.assertEqual(self.right(S0, marks("x??"), 3), (None, None, [[(0, 0)], []]))
        self.assertEqual(self.right(S0, marks("??o"), 0), (None, None, [[(0, 0)], []]))
        self.assertEqual(self.right(S0, marks("??o ??o"), 1), (None, None, [[(0, 0)], [(0, 1)], []]))
        self.assertEqual(self.right(S0, marks("??? x??"), 0), (None, None, [[(0, 0)], [(-1, 0), (1, 0)], []]))

    def test_all_short_strips(self):
        for tablet, strip, loose, bound in cases():
            if bound == 0:
                told = self.right(tablet, strip, loose)
                bounds = [many for many in range(len(strip) + 1) if all_by_hand(tablet, strip, loose, many)]
                self.assertEqual(told[0], min(bounds, default=None))
                if bounds:
                    columns = all_by_hand(tablet, strip, loose, bounds[0])
                    self.assertEqual(told[1], min(columns, key=lambda text: ["fbi".index(turn) for turn in text]))

    def test_60_marks_wholly_worn(self):
        for tablet in (S0, Z0):
            self.assertEqual(self.right(tablet, [WORN] * 60, 0), (1, "fb" * 30, [[(0, 0)], []]))
            self.assertEqual(self.right(tablet, [WORN] * 60, 3)[:2], (1, "fb" * 30))

    def test_60_marks_of_one_slant(self):
        for slant, tablet, turn, one in (("s", S0, "f", 1), ("z", S0, "b", -1), ("s", Z0, "b", 1), ("z", Z0, "f", -1)):
            for loose in (0, 3):
                told = self.right(tablet, [("?", "?", slant)] * 60, loose)
                self.assertEqual(told, (60, turn * 60, [[(one * many, 0)] for many in range(60)] + [[]]))
        self.assertEqual(self.right(S0, [("?", "?", "o")] * 60, 3)[:2], (None, None))

    def test_60_marks_that_end_in_none(self):
        for loose in (0, 3):
            told = self.right(S0, [WORN] * 59 + [("x", "?", "?")], loose)
            self.assertEqual((told[0], told[1], len(told[2])), (None, None, 61))

    def test_60_marks_that_first_go_the_other_way(self):
        for loose in (0, 3):
            told = self.right(S0, [WORN] * 20 + [("?", "?", "s")] * 40, loose)
            self.assertEqual(told[:2], (20, "b" * 20 + "f" * 40))

    def test_the_strip_is_unchanged_and_told_again(self):
        for strip in STRIPS:
            ahead = copy.deepcopy(strip)
            told = restore(S0, strip, 1)
            again = copy.deepcopy(told)
            for states in told[2]:
                states.append((7, 7))
            told[2].append([])
            self.assertEqual(restore(S0, strip, 1), again)
            self.assertEqual(strip, ahead)


if __name__ == "__main__":
    unittest.main()
