"""Archives and positions as texts, written in lines and read again."""

from forgetwork.archives import Archive, check_archive
from forgetwork.errors import BadArchive, BadText
from forgetwork.forgetting import is_build
from forgetwork.kinds import is_tuple_within
from forgetwork.play import MOST_TICKS, are_waiting_wishes, check_play, check_position

DIGITS = "0123456789"
NOTHING = "-"
FIRST_WAITING = 2


def line_of(name, numbers):
    """A line of a name and its numbers."""
    words = [str(number) for number in numbers] or [NOTHING]
    return " ".join([name] + words) + "\n"


def archive_text(archive):
    """The text of an archive."""
    check_archive(archive)
    return line_of("sizes", archive.sizes)


def position_text(archive, room, delay, position):
    """The text of a position."""
    check_position(archive, room, delay, position)
    order, kept, waiting, ticks = position
    rows = [f"{person} waits {left}\n" for person, left in waiting]
    return line_of("order", order) + line_of("kept", kept) + "".join(rows) + line_of("ticks", [ticks])


def is_number(word):
    """Whether a word is a number of one digit."""
    return len(word) == 1 and word in DIGITS


def lines_of(text):
    """The list of the lines of a text, and the characters behind the last line feed."""
    if not isinstance(text, str):
        raise BadText(0)
    # Only a line feed ends a line, so that splitlines would split at too many signs.
    pieces = text.split("\n")
    return pieces[:-1], pieces[-1]


def numbers_at(lines, row, name):
    """The tuple of the numbers of the line in this row; BadText if it is missing or not one with this name."""
    words = lines[row].split(" ") if row < len(lines) else []
    if len(words) < 2 or words[0] != name:
        raise BadText(row)
    if words[1:] == [NOTHING]:
        return ()
    if not all([is_number(word) for word in words[1:]]):
        raise BadText(row)
    return tuple([int(word) for word in words[1:]])


def check_end(lines, rest, row):
    """Raise BadText if there is anything from this row on."""
    if len(lines) > row or rest:
        raise BadText(row)


def read_archive(text):
    """The archive of a text."""
    lines, rest = lines_of(text)
    sizes = numbers_at(lines, 0, "sizes")
    try:
        archive = Archive(sizes)
    except BadArchive:
        raise BadText(0) from None
    check_end(lines, rest, 1)
    return archive


def build_at(archive, room, lines):
    """The order and the kept lengths in the first two lines."""
    order = numbers_at(lines, 0, "order")
    if not is_build(archive, room, (order, ())):
        raise BadText(0)
    kept = numbers_at(lines, 1, "kept")
    if not is_build(archive, room, (order, kept)):
        raise BadText(1)
    return order, kept


def waiting_at(order, delay, lines):
    """The waiting wishes in the lines behind the first two, up to the first line that is not one of them."""
    waiting = ()
    for line in lines[FIRST_WAITING:]:
        words = line.split(" ")
        if len(words) != 3 or words[1] != "waits" or not is_number(words[0]) or not is_number(words[2]):
            break
        longer = waiting + ((int(words[0]), int(words[2])),)
        if not are_waiting_wishes(order, delay, longer):
            break
        waiting = longer
    return waiting


def read_position(archive, room, delay, text):
    """The position of a text."""
    check_play(archive, room, delay)
    lines, rest = lines_of(text)
    order, kept = build_at(archive, room, lines)
    waiting = waiting_at(order, delay, lines)
    row = FIRST_WAITING + len(waiting)
    ticks = numbers_at(lines, row, "ticks")
    if len(ticks) != 1 or not is_tuple_within(ticks, 0, MOST_TICKS):
        raise BadText(row)
    check_end(lines, rest, row + 1)
    return (order, kept, waiting, ticks[0])
