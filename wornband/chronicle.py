"""The chronicle: looms told as texts and brought back."""

from wornband.errors import BadRow, BadTablet, BadText, NoTablet, SpoolDry, TooTight
from wornband.loom import Loom
from wornband.tablets import is_colour, made

DIGITS = "0123456789"
MOST_DIGITS = 9
MOST_TABLETS = 8


def told(loom):
    """The text of a loom."""
    lengths = loom.start.lengths
    lines = [f"loom {loom.most}"]
    lines.extend([f"spool {colour} {lengths[colour]}" for colour in sorted(lengths)])
    lines.extend([f"tablet {lay} {holes} {stand}" for lay, holes, stand in loom.start.standing])
    lines.extend([f"{word} {what}" for word, what in loom.deeds()])
    return "\n".join(lines)


def brought(text):
    """The loom that is told by this text."""
    lines = [line.split(" ") for line in text.split("\n")]
    tablets_from = run_end(lines, 1, "spool")
    deeds_from = run_end(lines, tablets_from, "tablet")
    most = number_of(words_behind(lines[0], "loom", 1)[0])
    spools = spools_of(lines[1:tablets_from])
    loom = Loom(draft_of(lines[tablets_from:deeds_from]), most, spools)
    for line in lines[deeds_from:]:
        do_again(loom, line)
    return loom


def run_end(lines, at, word):
    """The place of the first line from here on that does not begin with this word."""
    while at < len(lines) and lines[at][0] == word:
        at += 1
    return at


def words_behind(line, word, many):
    """The words of a line behind its first, which must be this one; there must be so many."""
    if line[0] != word or len(line) != many + 1:
        raise BadText(f"a line with {word} and {many} more is wanted")
    return line[1:]


def number_of(word):
    """A number from 0 to 999999999 without a nought ahead."""
    # The length is looked at ahead of all else, as Python refuses to read numbers of very many figures.
    if len(word) < 1 or len(word) > MOST_DIGITS or not all([sign in DIGITS for sign in word]):
        raise BadText("a number is written as one to nine figures")
    if word != str(int(word)):
        raise BadText("a number has no nought ahead")
    return int(word)


def spools_of(lines):
    """The spools of these lines, by rising colour."""
    spools = {}
    last = ""
    for line in lines:
        colour, length = words_behind(line, "spool", 2)
        if not is_colour(colour) or colour <= last:
            raise BadText("spools are told by rising colour")
        spools[colour] = number_of(length)
        last = colour
    return spools


def draft_of(lines):
    """The draft of these lines."""
    if len(lines) < 1 or len(lines) > MOST_TABLETS:
        raise BadText("a loom has 1 to 8 tablets")
    return [tablet_of(line) for line in lines]


def tablet_of(line):
    """The tablet of one line."""
    lay, holes, stand = words_behind(line, "tablet", 3)
    try:
        return made(lay, holes, number_of(stand))
    except BadTablet:
        raise BadText("there is no such tablet") from None


def do_again(loom, line):
    """Do the deed of one line."""
    try:
        if line[0] == "flip":
            loom.flip(number_of(words_behind(line, "flip", 1)[0]))
        else:
            loom.weave(words_behind(line, "row", 1)[0])
    except (BadRow, NoTablet, SpoolDry, TooTight):
        raise BadText("this deed can't be done") from None
