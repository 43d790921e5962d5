"""Point [12]: texts."""

import unittest
from itertools import product

from forgetwork.archives import Archive
from forgetwork.errors import BadText
from forgetwork.texts import archive_text, position_text, read_archive, read_position
from tests.common import (ARCHIVE, DELAY, LINE, OTHER_KINDS, POSITION, ROOM, TEXT, WRONG_TEXTS, check_errors, refused_at,
                          some_builds, some_waiting)

PAIR, THREE, FOUR = Archive((2, 1)), Archive((2, 1, 3)), Archive((1, 4, 2, 3))
SIZES = [sizes for many in range(1, 5) for sizes in product(range(1, 5), repeat=many)]

# Signs and words that are put into a text, or stand instead of what is there.
SIGNS = list(" \n-0123456789+.,_aotx\t\r\f\v\0\x1c\x85\u2028\u00a0\uff11\u0661\u00b2")
LINES = ["", " ", "-", "0", "order", "order -", "order 0", "order 1 0", "order 0 0", "kept", "kept -", "kept 1", "kept 2",
         "kept 1 2", "kept 2 1", "kept 0", "kept 3", "0 waits 0", "1 waits 0", "2 waits 1", "1 waits 2", "0 waits -",
         "waits", "waits 0", "0 waits", "0 wait 0", "3 waits 0", "ticks", "ticks -", "ticks 0", "ticks 4", "ticks 5",
         "ticks 00", "ticks 1 2", "sizes 1", "sizes -", "sizes", "sizes 5", "sizes 1 2 3 4", "sizes 1 1 1 1 1"]


def plain_lines(position):
    """The lines of a position, without their line feeds."""
    order, kept, waiting, ticks = position
    lines = ["order " + (" ".join(map(str, order)) or "-"), "kept " + (" ".join(map(str, kept)) or "-")]
    return lines + ["%d waits %d" % pair for pair in waiting] + ["ticks %d" % ticks]


def all_positions(archive, room, delay, ticks=range(5)):
    return [(order, kept, waiting, left) for order, kept in some_builds(len(archive), room)
            for waiting in some_waiting(order, delay) for left in ticks]


class Reader:
    """Tells which texts are right, and where others are wrong, by the beginnings of all right ones."""

    def __init__(self, texts):
        self.whole = texts
        self.beginnings = {tuple(text.split("\n")[:-1][:many]) for text in texts for many in range(1 + text.count("\n"))}

    def row(self, text):
        """None if the text is right."""
        if text in self.whole:
            return None
        *lines, _ = text.split("\n")
        return next((row for row in range(len(lines)) if tuple(lines[:row + 1]) not in self.beginnings), len(lines))


def positions_reader(archive, room, delay):
    return Reader({"".join(line + "\n" for line in plain_lines(position)): position
                   for position in all_positions(archive, room, delay)})


def archive_reader():
    return Reader({"sizes " + " ".join(map(str, sizes)) + "\n": sizes for sizes in SIZES})


def damaged(text):
    """The text with something dropped, doubled, swapped, changed or added."""
    for at in range(len(text) + 1):
        yield text[:at]
        yield text[:at] + text[at + 1:]
        yield text[:at] + text[at:at + 2][::-1] + text[at + 2:]
        yield text[:at] + text[at:at + 1] + text[at:]
        for sign in SIGNS:
            yield text[:at] + sign + text[at + 1:]
            yield text[:at] + sign + text[at:]
    lines = text.split("\n")[:-1]
    for at in range(len(lines) + 1):
        others = [lines[:at] + lines[at + 1:], lines[:at] + lines[at:at + 1] * 2 + lines[at + 1:],
                  lines[:at] + lines[at:at + 2][::-1] + lines[at + 2:]]
        others += [lines[:at] + [line] + lines[at + 1:] for line in LINES]
        others += [lines[:at] + [line] + lines[at:] for line in LINES]
        for other in others:
            yield "".join(line + "\n" for line in other)
    for end in [" ", "\n", "\n\n", "x", "ticks 0", text, text[:-1], "\r\n", "\0"]:
        yield text + end
        yield text[:-1] + end
    for other in [text.replace("\n", "\r\n"), text.replace("\n", "\r"), text.replace("\n", " "), text.replace(" ", "  "),
                  text.replace(" ", "\t"), text.upper(), " " + text, "\ufeff" + text, text.replace("-", ""), text[::-1]]:
        yield other


class ArchiveTextTest(unittest.TestCase):
    def test_all_archives(self):
        for sizes in SIZES:
            text = archive_text(Archive(sizes))
            self.assertEqual(text, "sizes " + " ".join(str(size) for size in sizes) + "\n")
            found = read_archive(text)
            self.assertIs(type(found), Archive)
            self.assertEqual((found, found.sizes), (Archive(sizes), sizes))
            self.assertEqual([type(size) for size in found.sizes], [int] * len(sizes))
        self.assertEqual(len(SIZES), 340)
        self.assertIs(type(archive_text(PAIR)), str)

    def test_damaged_texts(self):
        reader = archive_reader()
        right = wrong = 0
        for sizes in [(1,), (4,), (2, 1), (2, 1, 3), (4, 4, 4, 4), (1, 2, 3, 4)]:
            for text in ["", *damaged(archive_text(Archive(sizes)))]:
                row = reader.row(text)
                if row is None:
                    self.assertEqual(read_archive(text).sizes, reader.whole[text])
                    right += 1
                else:
                    refused_at(self, BadText, row, read_archive, (text,))
                    wrong += 1
        self.assertGreater(min(right, wrong), 50)

    def test_known_rows(self):
        for text in ["", "\n", "sizes", "sizes\n", "sizes \n", "sizes 1", "sizes -\n", "sizes 0\n", "sizes 5\n", "sizes 1 2 3 4 1\n",
                     "sizes  1\n", "sizes 1 \n", " sizes 1\n", "sizes 01\n", "sizes +1\n", "sizes 1\r\n", "Sizes 1\n", "sizes1\n",
                     "size 1\n", "sizes \uff11\n", "sizes \u0661\n", "sizes \u00b2\n", "sizes 1,2\n", "sizes 1\tsizes 2\n",
                     "sizes 1\x0c\n", "sizes 1\u2028", "\nsizes 1\n", "sizes 12\n", "sizes 1 -\n", "sizes 1\0\n"]:
            refused_at(self, BadText, 0, read_archive, (text,))
        for text in ["sizes 1\n\n", "sizes 1\n ", "sizes 1\nx", "sizes 1\nsizes 1\n", "sizes 2 1\n\n\n", "sizes 1\n-", "sizes 1\n\r"]:
            refused_at(self, BadText, 1, read_archive, (text,))

    def test_no_string(self):
        for value in WRONG_TEXTS:
            refused_at(self, BadText, 0, read_archive, (value,))

    def test_wrong_arguments(self):
        check_errors(self, archive_text, (PAIR,), [ARCHIVE])
        check_errors(self, read_archive, ("sizes 2 1\n",), [TEXT])


class PositionTextTest(unittest.TestCase):
    def check(self, archive, room, delay, position):
        text = position_text(archive, room, delay, position)
        self.assertEqual(text, "".join(line + "\n" for line in plain_lines(position)))
        found = read_position(archive, room, delay, text)
        self.assertEqual(found, position)
        order, kept, waiting, ticks = found
        self.assertEqual([type(found), type(order), type(kept), type(waiting), type(ticks)], [tuple] * 4 + [int])
        self.assertEqual({type(number) for number in order + kept} - {int}, set())

    def test_all_positions_of_three_people(self):
        for archive in (Archive((3,)), PAIR, THREE):
            for room in range(4):
                for delay in range(3):
                    for position in all_positions(archive, room, delay):
                        self.check(archive, room, delay, position)

    def test_positions_of_four_people(self):
        for room, delay in [(0, 0), (3, 2), (2, 1)]:
            for position in all_positions(FOUR, room, delay)[::7]:
                self.check(FOUR, room, delay, position)

    def test_known_ones(self):
        self.assertEqual(position_text(THREE, 1, 1, ((0, 1, 2), (1,), ((1, 0),), 1)), "order 0 1 2\nkept 1\n1 waits 0\nticks 1\n")
        self.assertEqual(position_text(THREE, 1, 1, ((), (), (), 4)), "order -\nkept -\nticks 4\n")
        self.assertEqual(position_text(FOUR, 3, 2, ((3, 1, 0, 2), (1, 2, 3), ((0, 1), (3, 0)), 0)),
                         "order 3 1 0 2\nkept 1 2 3\n0 waits 1\n3 waits 0\nticks 0\n")

    def test_wrong_arguments(self):
        check_errors(self, position_text, (THREE, 1, 2, (LINE, (1,), ((1, 0),), 2)), [ARCHIVE, ROOM, DELAY, POSITION])


class ReadPositionTest(unittest.TestCase):
    def check(self, reader, told, text):
        row = reader.row(text)
        if row is None:
            self.assertEqual(read_position(*told, text), reader.whole[text], (told, text))
            return 1
        with self.assertRaises(BadText) as held:
            read_position(*told, text)
        self.assertEqual((type(held.exception), held.exception.row), (BadText, row), (told, text))
        return 0

    def test_damaged_texts(self):
        right = wrong = 0
        for told, position in [((PAIR, 0, 0), ((0, 1), (), (), 3)), ((THREE, 1, 1), (LINE, (1,), ((1, 0),), 1)),
                               ((THREE, 2, 2), ((2, 0, 1), (1, 2), ((0, 1), (1, 0)), 4)), ((THREE, 1, 2), ((), (), (), 0)),
                               ((THREE, 3, 2), ((1, 2), (), ((2, 1),), 2)), ((Archive((1,)), 3, 1), ((0,), (), ((0, 0),), 0))]:
            reader = positions_reader(*told)
            for text in ["", *damaged(position_text(*told, position))]:
                found = self.check(reader, told, text)
                right, wrong = right + found, wrong + 1 - found
        self.assertGreater(min(right, wrong), 100)

    def test_texts_of_another_play(self):
        texts = [position_text(THREE, 2, 2, position) for position in all_positions(THREE, 2, 2, (0, 3))]
        for told in [(THREE, 2, 1), (THREE, 2, 0), (THREE, 1, 2), (THREE, 0, 2), (PAIR, 2, 2), (Archive((1,)), 0, 0)]:
            reader = positions_reader(*told)
            self.assertGreater(sum(1 - self.check(reader, told, text) for text in texts), 100)

    def test_lines_put_together(self):
        told = (THREE, 1, 2)
        reader = positions_reader(*told)
        right = 0
        for first in ["order 0 1 2", "order 1 0", "order -", "kept -", "order 3"]:
            for second in ["kept -", "kept 1", "kept 2", "ticks 1", "0 waits 0"]:
                for rest in product(["0 waits 0", "0 waits 1", "1 waits 0", "2 waits 1", "ticks 2", "ticks 5"], repeat=3):
                    for many in range(4):
                        for end in ("\n", "", "\n "):
                            right += self.check(reader, told, "\n".join([first, second, *rest[:many]]) + end)
        self.assertGreater(right, 50)

    def rows(self, row, texts, told=(THREE, 1, 2)):
        for text in texts:
            refused_at(self, BadText, row, read_position, (*told, text))

    def test_known_rows(self):
        begun = "order 0 1 2\nkept 1\n"
        self.rows(0, ["", "order 0 1 2", "\n", "order\nkept -\nticks 0\n", "order \nkept -\nticks 0\n", "kept -\nticks 0\n",
                      "order 0 0\nkept -\nticks 0\n", "order 3\nkept -\nticks 0\n", "order - 0\nkept -\nticks 0\n", "order 0",
                      "order 0 1 2 \n" + begun, "order 00\nkept -\nticks 0\n", "Order 0\nkept -\nticks 0\n"])
        self.rows(1, ["order 0 1 2\n", "order 0 1 2\nkept 1", "order 0 1 2\nticks 0\n", "order 0 1 2\nkept 1 2\nticks 0\n",
                      "order 0 1 2\nkept 3\nticks 0\n", "order 0 1 2\nkept 0\nticks 0\n", "order 0\nkept 1\nticks 0\n",
                      "order -\nkept\nticks 0\n", "order -\n\nkept -\nticks 0\n", "order 0 1 2\nkept 1 1\nticks 0\n"])
        self.rows(2, [begun, begun + "ticks 1", begun + "ticks 5\n", begun + "ticks -\n", begun + "ticks 1 1\n", begun + "\n",
                      begun + "1 waits 2\nticks 0\n", begun + "3 waits 0\nticks 0\n", begun + "1 waits 0", begun + "tick 1\n",
                      begun + "1 waits 0 \nticks 0\n", begun + "1 waits -\nticks 0\n", begun + "x", begun + "order 0\n",
                      begun + "1  waits 0\nticks 0\n", begun + " 1 waits 0\nticks 0\n", begun + "-1 waits 0\nticks 0\n"])
        self.rows(3, [begun + "1 waits 0\n", begun + "1 waits 0\nticks 1", begun + "1 waits 0\n0 waits 1\nticks 0\n",
                      begun + "1 waits 0\n1 waits 1\nticks 0\n", begun + "1 waits 0\n2 waits 0\nticks 0\n", begun + "ticks 0\n\n",
                      begun + "ticks 0\nticks 0\n", begun + "ticks 0\n1 waits 0\n", begun + "ticks 0\n ", begun + "ticks 0\nx\n",
                      begun + "1 waits 0\n\n", begun + "1 waits 0\nticks 5\n", begun + "ticks 0\n" + begun])
        self.rows(4, [begun + "1 waits 0\n2 waits 1\n", begun + "1 waits 0\n2 waits 1\n0 waits 0\nticks 0\n",
                      begun + "1 waits 0\nticks 1\n\n", begun + "1 waits 0\nticks 1\n1", begun + "0 waits 0\n1 waits 1\n2 waits 0\n"])
        self.rows(5, [begun + "1 waits 0\n2 waits 1\nticks 0\n\n", begun + "1 waits 0\n2 waits 1\nticks 0\nticks 0"])

    def test_limits_of_room_and_delay(self):
        text = "order 2 1 0\nkept 1 2\n0 waits 1\nticks 4\n"
        self.assertEqual(read_position(THREE, 2, 2, text), ((2, 1, 0), (1, 2), ((0, 1),), 4))
        self.rows(1, [text], (THREE, 1, 2))
        self.rows(2, [text], (THREE, 2, 1))
        self.rows(2, [text], (THREE, 2, 0))
        self.rows(0, [text], (PAIR, 2, 2))

    def test_no_string(self):
        for value in [value for value in OTHER_KINDS if not isinstance(value, str)] + WRONG_TEXTS:
            refused_at(self, BadText, 0, read_position, (THREE, 1, 2, value))

    def test_wrong_arguments(self):
        right = (THREE, 1, 2, "order 0 1 2\nkept 1\n1 waits 0\nticks 2\n")
        check_errors(self, read_position, right, [ARCHIVE, ROOM, DELAY, (BadText, WRONG_TEXTS + ["", "order", "order 0\n"])])


if __name__ == "__main__":
    unittest.main()
