"""Programs of turnings, written as texts and read again."""

from wornband.errors import BadText
from wornband.tablets import TURNS

DIGITS = "0123456789"
MOST_TURNS = 8
MOST_DIGITS = 2
MOST_DEEP = 8


def written(program):
    """The text of a program."""
    return " ".join([written_statement(statement) for statement in program])


def written_statement(statement):
    """The text of one statement."""
    if statement[0] == "row":
        return statement[1]
    if statement[0] == "all":
        return "*" + statement[1]
    if statement[0] == "times":
        return f"{statement[1]}({written(statement[2])})"
    return f"<{written(statement[1])}>"


def read(text):
    """The program that is written as this text."""
    program, end = read_program(text, 0, 1)
    if end != len(text):
        raise BadText(f"nothing written goes on so at sign {end}")
    return program


# Each of the readers below begins at a place of the text and tells what it read and the place behind it.


def read_program(text, at, deep):
    """A program that lies so deep, the outermost 1 deep; it ends where no blank follows a statement."""
    if deep > MOST_DEEP:
        raise BadText("at most eight programs lie within one another")
    if text[at:at + 1] in ("", ")", ">"):
        return ([], at)
    statement, end = read_statement(text, at, deep)
    program = [statement]
    while text[end:end + 1] == " ":
        statement, end = read_statement(text, end + 1, deep)
        program.append(statement)
    return (program, end)


def read_statement(text, at, deep):
    """One statement; its first sign tells which."""
    sign = text[at:at + 1]
    if sign == "*":
        turns, end = read_turns(text, at + 1, 1)
        return (("all", turns), end)
    if sign == "<":
        body, end = read_body(text, at, "<>", deep)
        return (("mirror", body), end)
    if sign != "" and sign in DIGITS:
        many, end = read_number(text, at)
        body, end = read_body(text, end, "()", deep)
        return (("times", many, body), end)
    turns, end = read_turns(text, at, MOST_TURNS)
    return (("row", turns), end)


def read_turns(text, at, most):
    """All turns that stand here, at least one and no more than most."""
    end = run_end(text, at, TURNS)
    if end == at or end - at > most:
        raise BadText(f"1 to {most} turns are wanted at sign {at}")
    return (text[at:end], end)


def read_number(text, at):
    """A number from 0 to 99 without a nought ahead."""
    end = run_end(text, at, DIGITS)
    digits = text[at:end]
    if len(digits) > MOST_DIGITS or digits != str(int(digits)):
        raise BadText(f"a number from 0 to 99 is wanted at sign {at}")
    return (int(digits), end)


def read_body(text, at, brackets, deep):
    """The program between two brackets; deep is that of the program around it."""
    opening, closing = brackets
    body, end = read_program(text, behind(text, at, opening), deep + 1)
    return (body, behind(text, end, closing))


def behind(text, at, sign):
    """The place behind a sign that must stand here."""
    if text[at:at + 1] != sign:
        raise BadText(f"{sign} is wanted at sign {at}")
    return at + 1


def run_end(text, at, signs):
    """The place of the first sign from here on that is none of these."""
    while at < len(text) and text[at] in signs:
        at += 1
    return at
