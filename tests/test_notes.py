"""Programs written and read: point 11, and point 1 for it."""

import copy
import itertools
import unittest

from wornband.errors import BadText
from wornband.notes import read, written

EXAMPLE = "ffb 3(*b <fib>)"
EXAMPLE_PROGRAM = [("row", "ffb"), ("times", 3, [("all", "b"), ("mirror", [("row", "fib")])])]

# Texts and their programs, each way about.
PAIRS = [
    (EXAMPLE, EXAMPLE_PROGRAM),
    ("", []),
    ("f", [("row", "f")]),
    ("i b f", [("row", "i"), ("row", "b"), ("row", "f")]),
    ("fbifbifb", [("row", "fbifbifb")]),
    ("*f", [("all", "f")]),
    ("*b *i", [("all", "b"), ("all", "i")]),
    ("0()", [("times", 0, [])]),
    ("1()", [("times", 1, [])]),
    ("10()", [("times", 10, [])]),
    ("99(f)", [("times", 99, [("row", "f")])]),
    ("<>", [("mirror", [])]),
    ("<> <> 7()", [("mirror", []), ("mirror", []), ("times", 7, [])]),
    ("<*i>", [("mirror", [("all", "i")])]),
    ("2(<>)", [("times", 2, [("mirror", [])])]),
    ("<2()>", [("mirror", [("times", 2, [])])]),
    ("2(<f> *b) i", [("times", 2, [("mirror", [("row", "f")]), ("all", "b")]), ("row", "i")]),
    ("<3(f b) <*f>> 5(5(5()))", [
        ("mirror", [("times", 3, [("row", "f"), ("row", "b")]), ("mirror", [("all", "f")])]),
        ("times", 5, [("times", 5, [("times", 5, [])])]),
    ]),
]


def own_kinds(test, program):
    test.assertIs(type(program), list)
    for statement in program:
        test.assertIs(type(statement), tuple)
        if statement[0] == "times":
            test.assertIs(type(statement[1]), int)
        if statement[0] in ("times", "mirror"):
            own_kinds(test, statement[-1])


def nested(brackets, programs, inmost=""):
    """The text of so many programs within one another."""
    return brackets[0] * (programs - 1) + inmost + brackets[1] * (programs - 1)


def texts_of_length(most):
    """All texts up to a length that are written of programs with the signs f, *, 1, 0, <, >, (, ) and the blank."""
    programs = {0: {""}}
    for long in range(1, most + 1):
        single = statements(programs, long)
        behind = {head + " " + tail for cut in range(1, long - 1)
                  for head in statements(programs, cut) for tail in programs[long - cut - 1] if tail}
        programs[long] = single | behind
    return set().union(*programs.values())


def statements(programs, long):
    told = {"f" * long} if 1 <= long <= 8 else set()
    if long == 2:
        told.add("*f")
    told |= {"<" + body + ">" for body in programs.get(long - 2, ())}
    for number in ("0", "1", "10", "11"):
        told |= {number + "(" + body + ")" for body in programs.get(long - 2 - len(number), ())}
    return told


class Written(unittest.TestCase):
    def test_each_text(self):
        for text, program in PAIRS:
            with self.subTest(text=text):
                self.assertEqual(written(program), text)

    def test_every_number(self):
        for many in range(100):
            self.assertEqual(written([("times", many, [("row", "f")])]), str(many) + "(f)")

    def test_the_program_is_unchanged(self):
        program = copy.deepcopy(EXAMPLE_PROGRAM)
        written(program)
        self.assertEqual(program, EXAMPLE_PROGRAM)

    def test_asked_again_after_a_body_was_changed(self):
        program = copy.deepcopy(EXAMPLE_PROGRAM)
        written(program)
        program[1][2].append(("row", "iii"))
        self.assertEqual(written(program), "ffb 3(*b <fib> iii)")


class Read(unittest.TestCase):
    def refuse(self, *texts):
        for text in texts:
            with self.subTest(text=text[:60]):
                with self.assertRaises(BadText):
                    read(text)

    def test_each_text(self):
        for text, program in PAIRS:
            with self.subTest(text=text):
                self.assertEqual(read(text), program)
                own_kinds(self, read(text))

    def test_rows_of_one_to_eight_turns(self):
        for many in range(1, 9):
            self.assertEqual(read("i" * many), [("row", "i" * many)])

    def test_every_number(self):
        for many in range(100):
            self.assertEqual(read(f"{many}(f)"), [("times", many, [("row", "f")])])

    def test_just_the_texts_that_are_written(self):
        right = texts_of_length(6)
        for long in range(6):
            for signs in itertools.product("f*10<>() ", repeat=long):
                text = "".join(signs)
                if text in right:
                    self.assertEqual(written(read(text)), text)
                else:
                    with self.assertRaises(BadText, msg=text):
                        read(text)
        for text in right:
            self.assertEqual(written(read(text)), text)

    def test_one_sign_put_in_or_left_out_or_exchanged(self):
        for at in range(len(EXAMPLE)):
            text = EXAMPLE[:at] + EXAMPLE[at + 1:]
            if at in (0, 1, 2, 6, 10, 11, 12):
                self.assertEqual(written(read(text)), text)
            else:
                self.refuse(text)
            for sign in "\nFx.,-+0":
                if (at, sign) != (5, "0"):
                    self.refuse(EXAMPLE[:at] + sign + EXAMPLE[at:])
            for sign in "\nFx.,-+":
                self.refuse(EXAMPLE[:at] + sign + EXAMPLE[at + 1:])
        self.assertEqual(written(read("ffb 30(*b <fib>)")), "ffb 30(*b <fib>)")

    def test_blanks(self):
        self.refuse(" ", "  ", " f", "f ", "f  f", " <>", "<> ", "<>  <>", "2(f  b)", "ffb  3()", " ffb 3()", "ffb 3() ")
        self.refuse("< >", "<f >", "< f>", "2( )", "2( f)", "2(f )", "2 (f)", "* f", "1 0(f)", "2(f) )", "<f> >")

    def test_no_blank_between(self):
        self.refuse("<><>", "f<>", "<>f", "2()f", "f2()", "2()3()", "*f*b", "f*b", "<>*b", "*b<>", "*b2()", "2()<>")

    def test_missing_and_needless_brackets(self):
        self.refuse("<", ">", "(", ")", "<f", "f>", "2(f", "2f)", "2(", "2)", "f)", "(f)", "()", "<<f>", "<f>>")
        self.refuse("2(f))", "2((f))", "2(2(f)", "<f> <", "f >", "f )", "2(f) (f)", "<(f)>", "2(f) 2", "f(b)", "*(f)")

    def test_brackets_that_cross(self):
        self.refuse("2(<f)>", "<2(f>)", "2(f>", "<f)", "2<f>", "<2(>)", "2(<)>", "2(f]", "[f]", "2[f]", "{f}")

    def test_rows_of_nine_turns(self):
        self.refuse("f" * 9, "<" + "b" * 9 + ">", "2(" + "i" * 9 + ")", "f " + "fbifbifbi", "f" * 16, "f" * 100000)

    def test_numbers(self):
        self.refuse("100(f)", "999(f)", "100()", "1000(f)", "00(f)", "01(f)", "09(f)", "000(f)", "007()", "010(f)")
        self.refuse("-1(f)", "+1(f)", "1.0(f)", "1e1(f)", "1_0(f)", "9" * 10000 + "(f)", "0" * 10000 + "(f)")

    def test_a_number_without_brackets(self):
        self.refuse("2", "0", "99", "2 f", "f 2", "<2>", "2(3)", "23", "2f", "f2", "2*f")

    def test_brackets_of_times_without_a_number(self):
        self.refuse("()", "(f)", "f (b)", "<(f)>", "2((f))", "((f))")

    def test_a_star_without_a_turn_or_with_two(self):
        self.refuse("*", "* ", "*ff", "*fb", "f *", "*<f>", "*2(f)", "**f", "<*>", "2(*)", "*f*", "f*", "*f f*")
        self.refuse("*" + "f" * 8)

    def test_other_signs(self):
        self.refuse("F", "B", "I", "Ffb", "fF", "*F", "<F>", "x", "fxb", "s", "o", ",", "f,b", "f;b", "f.b", "?", "f\tb")

    def test_line_feeds(self):
        self.refuse("\n", "f\n", "\nf", "f\nf", "<\n>", "2(f)\n", "2\n(f)", "*\nf", "*f\n", "1\n0(f)", "<f\n>", "<>\n")

    def test_eight_programs_within_one_another_are_read(self):
        for brackets in (("<", ">"), ("2(", ")"), ("99(", ")")):
            for programs in range(1, 9):
                for inmost in ("", "f", "*b f"):
                    text = nested(brackets, programs, inmost)
                    self.assertEqual(written(read(text)), text)

    def test_eight_programs_and_again_eight_beside_them(self):
        text = nested("<>", 8, "f") + " " + nested(("3(", ")"), 8, "*b") + " " + nested("<>", 8)
        self.assertEqual(written(read(text)), text)

    def test_nine_programs_within_one_another_are_refused(self):
        for brackets in (("<", ">"), ("2(", ")"), ("0(", ")")):
            for programs in (9, 10, 50, 5000):
                self.refuse(nested(brackets, programs), nested(brackets, programs, "f"))
        self.refuse("f " + nested("<>", 9), nested("<>", 9) + " f", nested(("2(<", ">)"), 5, "<f>"))
        self.refuse("<" * 100000)

    def test_asked_again_after_what_was_told_was_changed(self):
        program = read(EXAMPLE)
        program[1][2].append(("row", "x"))
        program[1][2][1][1].clear()
        program.clear()
        self.assertEqual(read(EXAMPLE), EXAMPLE_PROGRAM)
        empty = read("")
        empty.append(("row", "f"))
        self.assertEqual(read(""), [])
        body = read("<> 2()")
        body[0][1].append(("row", "f"))
        self.assertEqual(body[1], ("times", 2, []))
        self.assertEqual(read("<> 2()"), [("mirror", []), ("times", 2, [])])

    def test_a_long_text(self):
        text = " ".join([EXAMPLE] * 2000)
        self.assertEqual(read(text), EXAMPLE_PROGRAM * 2000)


if __name__ == "__main__":
    unittest.main()
