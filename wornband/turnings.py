"""Programs of turnings: how many rows they have, and how they are laid out."""

from wornband.bands import is_row
from wornband.errors import BadRow, TooLong
from wornband.tablets import opposite

MOST_ROWS = 240


def tally(program):
    """How many rows the program lays out."""
    return sum([tally_of(statement) for statement in program])


def tally_of(statement):
    """How many rows one statement lays out."""
    if statement[0] == "times":
        return repeats(statement) * tally(body_of(statement))
    if statement[0] == "mirror":
        return 2 * tally(body_of(statement))
    return 1


def repeats(statement):
    """How often the body of a times statement comes."""
    # A number below nought is not refused, and nothing can come less often than nought times.
    return max(statement[1], 0)


def body_of(statement):
    """The program that lies within a statement, an empty one where none does."""
    return statement[-1] if statement[0] in ("times", "mirror") else []


def opposed(rows):
    """The rows in the other order, each turn by its opposite."""
    return [opposite(row) for row in reversed(rows)]


def laid(program, width):
    """The rows of the program for so many tablets."""
    if tally(program) > MOST_ROWS:
        raise TooLong("a program has at most 240 rows")
    check_rows(program, width)
    return rows_in(program, width)


def check_rows(program, width):
    """Refuse any row statement without just one turn for each tablet, wherever it stands."""
    for statement in program:
        if statement[0] == "row" and not is_row(statement[1], width):
            raise BadRow("a row has one turn for each tablet")
        check_rows(body_of(statement), width)


def rows_in(program, width):
    """The rows of a program that is neither too long nor has a bad row."""
    rows = []
    for statement in program:
        rows.extend(rows_by(statement, width))
    return rows


def rows_by(statement, width):
    """The rows of one statement."""
    if statement[0] == "row":
        return [statement[1]]
    if statement[0] == "all":
        return [statement[1] * width]
    if statement[0] == "times" and repeats(statement) == 0:
        # The body is not laid out: it may have very many rows, though none of them comes.
        return []
    rows = rows_in(body_of(statement), width)
    if statement[0] == "times":
        return rows * repeats(statement)
    return rows + opposed(rows)
