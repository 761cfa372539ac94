"""The looker: points 23 and 24, and point 1 for them."""

import copy
import itertools
import unittest

from tests.helpers import WORN, marks
from wornband.looker import holds, settled
from wornband.restorer import does, least, restore, search

S0 = ("S", "abcd", 0)
Z0 = ("Z", "abcd", 0)
TABLETS = [(lay, holes, stand) for lay in "SZ" for holes in ("abcd", "aabb") for stand in range(4)]
STRIPS = [marks(text) for text in (
    "", "???", "b??", "??s", "??o", "x??", "??? ???", "??s ??s", "??o ??o", "b?? c??", "??? x??", "??s ??s ??s",
    "??? ??s ??s", "??o ??o ??o", "??? ??? ??? ???", "b?? ??? ??s d??", "??s ??s ??z ??z ??z",
)]


def by_hand(tablet, strip, loose, bound, lists):
    """Whether a search holds, from the document's words alone."""
    if not 2 <= len(lists) <= len(strip) + 1 or len(lists[-1]) > 0 or (0, 0) not in lists[0]:
        return False
    lay, holes, stand = tablet
    for at in range(len(lists) - 1):
        for (twist, idle), slant in itertools.product(lists[at], "szo"):
            new = twist + {"s": 1, "z": -1, "o": 0}[slant]
            idles = idle + 1 if slant == "o" else 0
            on_top = stand + new if lay == "S" else stand - new
            place = (holes[on_top % 4], holes[(on_top + 2) % 4], slant)
            agreed = all(left in ("?", sign) for sign, left in zip(place, strip[at]))
            if agreed and -bound <= new <= bound and idles <= loose and (new, idles) not in lists[at + 1]:
                return False
    return True


def too_small():
    """Cases whose bound is too small, with the search that shows it."""
    for tablet, strip, loose in itertools.product(TABLETS[::3], STRIPS, range(4)):
        for bound in range(len(strip) + 1):
            lists = search(tablet, strip, loose, bound)
            if lists[-1] == []:
                yield tablet, strip, loose, bound, lists


class Holds(unittest.TestCase):
    def yes(self, *asked):
        self.assertIs(holds(*asked), True, asked)

    def no(self, *asked):
        self.assertIs(holds(*asked), False, asked)

    def test_searches_for_too_small_a_bound(self):
        self.assertGreater(len(list(too_small())), 100)
        for case in too_small():
            self.yes(*case)

    def test_searches_for_a_bound_that_does(self):
        for tablet, strip, loose in itertools.product(TABLETS, STRIPS, range(4)):
            bound = least(tablet, strip, loose)
            if bound is not None:
                self.no(tablet, strip, loose, bound, search(tablet, strip, loose, bound))
                self.no(tablet, strip, loose, bound, search(tablet, strip, loose, bound) + [[]])

    def test_a_state_left_out(self):
        for tablet, strip, loose, bound, lists in too_small():
            for at, states in enumerate(lists):
                for state in states:
                    less = copy.deepcopy(lists)
                    less[at].remove(state)
                    self.no(tablet, strip, loose, bound, less)

    def test_a_list_left_out(self):
        for tablet, strip, loose, bound, lists in too_small():
            self.no(tablet, strip, loose, bound, lists[:-1])
            self.no(tablet, strip, loose, bound, lists[1:])
        lists = search(S0, marks("??s ??s ??s"), 0, 2)
        self.no(S0, marks("??s ??s ??s"), 0, 2, lists[:1] + lists[2:])

    def test_a_list_more(self):
        for tablet, strip, loose, bound, lists in too_small():
            more = lists + [[]]
            self.assertIs(holds(tablet, strip, loose, bound, more), len(more) <= len(strip) + 1)
            self.no(tablet, strip, loose, bound, [[(0, 0)]] * (len(strip) + 1) + [[]])
            self.no(tablet, strip, loose, bound, lists + [[]] * 1000)

    def test_one_state_more(self):
        strip = marks("??s ??s ??s ???")
        self.yes(S0, strip, 0, 1, [[(0, 0)], [(1, 0)], []])
        # From (0, 0) the slant leads to (1, 0), which is in the next list but for the last.
        self.yes(S0, strip, 0, 1, [[(0, 0), (1, 0)], [(1, 0)], []])
        self.yes(S0, strip, 0, 1, [[(0, 0), (0, 0)], [(1, 0), (5, 0)], []])
        self.no(S0, strip, 0, 1, [[(0, 0)], [(1, 0), (0, 0)], []])
        self.no(S0, strip, 0, 1, [[(0, 0), (-1, 0)], [(1, 0)], []])
        self.yes(S0, strip, 0, 1, [[(0, 0), (-1, 5)], [(1, 0), (0, 0)], [(1, 0)], []])
        self.no(S0, strip, 0, 1, [[(0, 0)], [(1, 0)], [(0, 0)]])

    def test_states_twice_and_in_another_order(self):
        for tablet, strip, loose, bound, lists in too_small():
            self.yes(tablet, strip, loose, bound, [states[::-1] for states in lists])
            self.yes(tablet, strip, loose, bound, [states * 3 for states in lists])
            self.yes(tablet, strip, loose, bound, [states + states[::-1] for states in lists])

    def test_states_far_beyond_the_bound(self):
        far = 10 ** 30
        for tablet, strip, loose, bound, lists in too_small():
            for state in ((far, 0), (-far, 0), (far, far), (-far, -far), (bound + 2, 0), (-bound - 2, 3)):
                self.yes(tablet, strip, loose, bound, [states + [state] for states in lists[:-1]] + [[]])
                self.no(tablet, strip, loose, bound, lists[:-1] + [[state]])

    def test_states_just_beyond_the_bound(self):
        strip = marks("??z ??s")
        self.yes(S0, strip, 0, 0, [[(0, 0)], []])
        # A twist beyond the bound may come back to it.
        self.no(S0, strip, 0, 0, [[(0, 0), (1, 0)], []])
        self.yes(S0, strip, 0, 0, [[(0, 0), (-1, 0)], []])
        self.yes(S0, strip, 0, 0, [[(0, 0), (1, 0)], [(0, 0)], []])
        self.no(S0, marks("??s ??s"), 0, 0, [[(0, 0), (-1, 0)], []])
        self.yes(Z0, marks("??s ??s"), 0, 0, [[(0, 0), (1, 0)], []])

    def test_idle_turns_below_nought(self):
        strip = marks("??o ??o ???")
        self.yes(S0, strip, 0, 0, [[(0, 0)], []])
        self.no(S0, strip, 0, 0, [[(0, 0), (0, -1)], []])
        self.yes(S0, strip, 0, 0, [[(0, 0), (0, -1)], [(0, 0)], []])
        self.no(S0, strip, 0, 0, [[(0, 0), (0, -2)], [(0, 0)], []])
        self.yes(S0, strip, 0, 0, [[(0, 0), (1, -2)], [(0, 0)], []])
        self.no(S0, strip, 0, 0, [[(0, 0), (0, -10 ** 30)], []])
        self.yes(S0, strip, 1, 0, [[(0, 0), (0, 5)], [(0, 1)], []])

    def test_colours_far_beyond_the_bound(self):
        # An S tablet stands t holes further, a Z tablet t holes less far, wherever the twist is.
        for tablet, twist in itertools.product(TABLETS, range(-9, 10)):
            lay, holes, stand = tablet
            bound = abs(twist) + 1
            for one, slant in ((1, "s"), (-1, "z")):
                new = twist + one
                face = holes[(stand + new if lay == "S" else stand - new) % 4]
                for colour in "abcd":
                    strip = [(colour, "?", slant)]
                    lists = [[(0, 0), (twist, 0)], []]
                    self.assertIs(holds(tablet, strip, 0, bound, lists), by_hand(tablet, strip, 0, bound, lists))
                    if colour == face:
                        self.no(tablet, strip, 0, bound, lists)

    def test_no_lists_and_one_list(self):
        for tablet, strip in itertools.product((S0, Z0), STRIPS):
            for lists in ([], [[]], [[(0, 0)]], [[(0, 0), (1, 0)]]):
                self.no(tablet, strip, 0, 0, lists)

    def test_the_last_one_not_empty(self):
        strip = marks("x?? ???")
        self.yes(S0, strip, 0, 2, [[(0, 0)], []])
        self.no(S0, strip, 0, 2, [[(0, 0)], [(0, 0)]])
        self.no(S0, strip, 0, 2, [[(0, 0)], [(9, 9)]])
        self.no(S0, strip, 0, 2, [[(0, 0)], [], [(9, 9)]])
        self.yes(S0, strip, 0, 2, [[(0, 0)], [], []])
        self.yes(S0, strip, 0, 2, [[(0, 0)], [(9, 9)], []])

    def test_the_start_is_not_in_the_first(self):
        strip = marks("x??")
        for first in ([], [(0, 1)], [(1, 0)], [(9, 9), (-9, 9)]):
            self.no(S0, strip, 0, 2, [first, []])
        self.yes(S0, strip, 0, 2, [[(9, 9), (0, 1), (0, 0)], []])

    def test_no_marks(self):
        for lists in ([], [[]], [[(0, 0)]], [[(0, 0)], []], [[], []]):
            self.no(S0, [], 0, 0, lists)

    def test_as_many_lists_as_may_be(self):
        strip = [("?", "?", "s")] * 60
        lists = search(S0, strip, 0, 59)
        self.assertEqual(len(lists), 61)
        self.yes(S0, strip, 0, 59, lists)
        self.no(S0, strip[:59], 0, 59, lists)
        self.no(S0, strip, 0, 60, lists)
        self.no(S0, strip, 0, 59, lists + [[]])
        self.no(S0, strip, 0, 59, lists * 1000)
        worn = [WORN] * 59 + [("x", "?", "?")]
        self.yes(S0, worn, 3, 60, search(S0, worn, 3, 60))

    def test_500_states_in_a_list(self):
        every = [(twist, idle) for twist in range(-62, 63) for idle in range(4)]
        self.assertEqual(len(every), 500)
        strip = [WORN] * 59 + [("x", "?", "?")]
        self.yes(S0, strip, 3, 60, [every] * 60 + [[]])
        self.no(S0, strip[1:], 3, 60, [every] * 60 + [[]])
        every.remove((-60, 0))
        self.no(S0, strip, 3, 60, [every] * 60 + [[]])

    def test_all_small_lists(self):
        states = [(twist, idle) for twist in (-2, -1, 0, 1, 2) for idle in (-1, 0, 1)]
        some = [list(pair) for many in range(3) for pair in itertools.combinations(states, many)]
        for tablet, strip, loose, bound in itertools.product((S0, ("Z", "aabb", 1)), STRIPS[6:10], (0, 1), (0, 1)):
            for first in some:
                lists = [[(0, 0)] + first, []]
                self.assertIs(holds(tablet, strip, loose, bound, lists), by_hand(tablet, strip, loose, bound, lists))
            for second in some:
                lists = [[(0, 0)], second, []]
                self.assertIs(holds(tablet, strip, loose, bound, lists), by_hand(tablet, strip, loose, bound, lists))

    def test_nothing_is_changed(self):
        for tablet, strip, loose, bound, lists in list(too_small())[::10]:
            ahead = copy.deepcopy((strip, lists))
            holds(tablet, strip, loose, bound, lists)
            holds(tablet, strip, loose, bound + 1, lists)
            self.assertEqual((strip, lists), ahead)


class Settled(unittest.TestCase):
    def yes(self, *asked):
        self.assertIs(settled(*asked), True, asked)

    def no(self, *asked):
        self.assertIs(settled(*asked), False, asked)

    def restorings(self):
        for tablet, strip, loose in itertools.product(TABLETS[::3], STRIPS, range(4)):
            yield tablet, strip, loose, restore(tablet, strip, loose)

    def test_restorings(self):
        bounds = []
        for tablet, strip, loose, triple in self.restorings():
            self.yes(tablet, strip, loose, triple)
            bounds.append(triple[0])
        self.assertLessEqual({None, 0, 1, 2, 3}, set(bounds))

    def test_long_restorings(self):
        for strip in ([WORN] * 60, [("?", "?", "s")] * 60, [WORN] * 59 + [("x", "?", "?")], [("?", "?", "o")] * 60):
            for tablet, loose in itertools.product((S0, Z0), (0, 3)):
                self.yes(tablet, strip, loose, restore(tablet, strip, loose))

    def test_another_bound(self):
        for tablet, strip, loose, (bound, text, lists) in self.restorings():
            for other in [None, *range(len(strip) + 2), 60]:
                if other != bound:
                    self.no(tablet, strip, loose, (other, text, lists))
                    for first in (0, 1, len(strip)):
                        self.no(tablet, strip, loose, (other, text, search(tablet, strip, loose, first)))

    def test_another_text(self):
        for tablet, strip, loose, (bound, text, lists) in self.restorings():
            others = [None, "", "f", "x" * len(strip), "F" * len(strip), (text or "") + "f", (text or "") + "\n"]
            if len(strip) < 4:
                others += ["".join(turns) for turns in itertools.product("fbi", repeat=len(strip))]
            for other in others:
                if other == text:
                    continue
                right = bound is not None and other is not None and does(tablet, strip, loose, bound, other)
                self.assertIs(settled(tablet, strip, loose, (bound, other, lists)), right)

    def test_any_column_that_does(self):
        self.yes(S0, [WORN] * 2, 0, (1, "fb", [[(0, 0)], []]))
        self.yes(S0, [WORN] * 2, 0, (1, "bf", [[(0, 0)], []]))
        self.no(S0, [WORN] * 2, 0, (1, "ff", [[(0, 0)], []]))
        self.no(S0, [WORN] * 2, 0, (2, "ff", [[(0, 0)], []]))
        self.no(S0, [WORN] * 2, 0, (2, "fb", [[(0, 0)], []]))

    def test_none_in_the_place_of_either(self):
        strip = marks("??s ??s")
        self.yes(S0, strip, 0, (2, "ff", [[(0, 0)], [(1, 0)], []]))
        self.no(S0, strip, 0, (None, "ff", [[(0, 0)], [(1, 0)], []]))
        self.no(S0, strip, 0, (2, None, [[(0, 0)], [(1, 0)], []]))
        self.no(S0, strip, 0, (None, None, [[(0, 0)], [(1, 0)], []]))
        strip = marks("??? x??")
        triple = (None, None, [[(0, 0)], [(-1, 0), (1, 0)], []])
        self.yes(S0, strip, 0, triple)
        for text in ("", "ff", "fb", "None"):
            self.no(S0, strip, 0, (None, text, triple[2]))
        for bound in (0, 1, 2, 60):
            self.no(S0, strip, 0, (bound, None, triple[2]))
            self.no(S0, strip, 0, (bound, "ff", triple[2]))

    def test_other_lists(self):
        for tablet, strip, loose, (bound, text, lists) in self.restorings():
            for other in ([], [[]], [[(0, 0)]], [[(0, 0)], []], lists[:-1], lists[1:], lists + [[]],
                          lists + [[(0, 0)]]):
                if bound == 0:
                    right = other == []
                else:
                    right = by_hand(tablet, strip, loose, len(strip) if bound is None else bound - 1, other)
                self.assertIs(settled(tablet, strip, loose, (bound, text, other)), right)

    def test_the_bound_nought(self):
        self.yes(S0, [WORN], 1, (0, "i", []))
        self.no(S0, [WORN], 1, (0, "f", []))
        self.no(S0, [WORN], 1, (0, "", []))
        for lists in ([[]], [[(0, 0)], []], [[], []], [[(0, 0)]]):
            self.no(S0, [WORN], 1, (0, "i", lists))
        self.no(S0, [WORN], 1, (1, "i", []))
        self.no(S0, [WORN], 1, (1, "f", []))
        self.yes(S0, [], 0, (0, "", []))
        self.no(S0, [], 0, (None, None, []))
        self.no(S0, [], 0, (1, "", [[(0, 0)], []]))

    def test_the_least_bound_alone_is_settled(self):
        for tablet, strip, loose in itertools.product(TABLETS[::5], STRIPS, range(4)):
            wanted = least(tablet, strip, loose)
            texts = ["".join(turns) for turns in itertools.product("fbi", repeat=len(strip))][::3] + [None]
            for bound in [None, *range(len(strip) + 2)]:
                lists = search(tablet, strip, loose, len(strip) if bound is None else bound - 1) if bound != 0 else []
                for text in texts:
                    if settled(tablet, strip, loose, (bound, text, lists)):
                        self.assertEqual(bound, wanted)

    def test_nothing_is_changed(self):
        for tablet, strip, loose, triple in list(self.restorings())[::10]:
            ahead = copy.deepcopy((strip, triple))
            settled(tablet, strip, loose, triple)
            self.assertEqual((strip, triple), ahead)


if __name__ == "__main__":
    unittest.main()
