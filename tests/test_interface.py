"""The interface: each module's names and arguments as they stand in the document."""

import importlib
import inspect
import unittest

FUNCTIONS = {
    "tablets": ["made(lay, holes, stand)", "top(tablet)", "bottom(tablet)", "twisting(tablet, turn)",
                "turned(tablet, turn)", "flipped(tablet)", "rolled(tablet, many)", "opposite(turns)"],
    "bands": ["woven(draft, plan)", "twists(draft, plan)", "peaks(draft, plan)", "column(plan, k)", "rows_of(columns)"],
    "packs": ["grouped(plan, width)", "called(plan, width)", "unpacked(packs, calls)", "parted(plan, one, other)"],
    "turnings": ["tally(program)", "laid(program, width)", "opposed(rows)"],
    "notes": ["written(program)", "read(text)"],
    "strands": ["left_by(strand)", "seen(strand)", "plain(strand)", "stepped(strand, step)", "steps(one, other)"],
    "marks": ["agrees(place, mark)", "parting(band, sheet)", "sheet_text(sheet)", "sheet_of(text)",
              "Fragment(tall, wide)"],
    "threads": ["threaded(strip)"],
    "restorer": ["does(tablet, strip, loose, bound, text)", "search(tablet, strip, loose, bound)",
                 "ways(tablet, strip, loose, bound)", "way(tablet, strip, loose, bound, number)",
                 "rank(tablet, strip, loose, bound, text)", "least(tablet, strip, loose)",
                 "restore(tablet, strip, loose)"],
    "looker": ["holds(tablet, strip, loose, bound, lists)", "settled(tablet, strip, loose, triple)"],
    "loom": ["Loom(draft, most, spools)"],
    "chronicle": ["told(loom)", "brought(text)"],
    "workshop": ["Workshop(draft, tall, loose)"],
    "errors": ["Unlike(pick, side)"],
}
METHODS = {
    ("marks", "Fragment"): ["spot(self, pick, k, side, sign)", "wear(self, pick, k, side)", "strip(self, k)",
                            "sheet(self)", "known(self)"],
    ("loom", "Loom"): ["weave(self, row)", "flip(self, k)", "follow(self, program)", "undo(self)", "redo(self)",
                       "tablets(self)", "band(self)", "deeds(self)", "twist(self, k)", "peak(self, k)",
                       "rest(self, colour)"],
    ("workshop", "Workshop"): ["spot(self, pick, k, side, sign)", "wear(self, pick, k, side)",
                               "exchange(self, k, tablet)", "undo(self)", "draft_now(self)", "sheet(self)",
                               "restoring(self, k)", "outcome(self)", "need(self)", "onto(self, spools)"],
}


def shown(thing, name):
    return name + str(inspect.signature(thing))


class Interface(unittest.TestCase):
    def test_functions_and_classes(self):
        for file, rows in FUNCTIONS.items():
            module = importlib.import_module("wornband." + file)
            for row in rows:
                name = row.split("(")[0]
                self.assertEqual(shown(getattr(module, name), name), row)

    def test_methods(self):
        for (file, kind), rows in METHODS.items():
            holder = getattr(importlib.import_module("wornband." + file), kind)
            for row in rows:
                name = row.split("(")[0]
                self.assertEqual(shown(getattr(holder, name), name), row)


if __name__ == "__main__":
    unittest.main()
