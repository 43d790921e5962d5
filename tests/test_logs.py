"""Point [10]: logs."""

import unittest

from forgetwork.archives import Archive
from forgetwork.errors import BadLog
from forgetwork.logs import after_log, asked, spent
from tests.common import (ARCHIVE, DELAY, LINE, LOG, OTHER_KINDS, POSITION, ROOM, WRONG_POSITIONS, WRONG_WISHES, Same,
                          check_errors, check_new, refused_at)
from tests.machine import Dice, all_logs, long_log, plain_pairs
from tests.plain import plain_wishes

PAIR, THREE, FOUR = Archive((2, 1)), Archive((2, 1, 3)), Archive((1, 4, 2, 3))
FUNCTIONS = (spent, after_log, asked)

START = (LINE, (1,), (), 2)
LATE = (LINE, (1,), ((1, 0),), 1)
END = ((0,), (), (), 0)
RIGHT = [(1, LATE), (2, END)]


class LogsTest(unittest.TestCase):
    def check(self, told, position, log, works):
        for kind in (list, tuple):
            given = kind(log)
            found = spent(*told, position, given)
            self.assertEqual(found, works, (told, position, log))
            self.assertIs(type(found), list)
            self.assertEqual(after_log(*told, position, given), log[-1][1] if log else position)
            people = asked(*told, position, given)
            self.assertEqual(people, tuple(sorted({wish for wish, _ in log} - {None})))
            self.assertIs(type(people), tuple)
            self.assertEqual(given, kind(log))

    def test_all_logs_of_two_people(self):
        for room in range(3):
            for delay in range(3):
                told = (PAIR, room, delay)
                for waiting in [(), ((0, 0),), ((1, 1),), ((0, 1), (1, 0))]:
                    if all(left < delay for _, left in waiting):
                        position = ((1, 0), (1,) * min(1, room), waiting, 3)
                        for log, works in all_logs(told, position):
                            self.check(told, position, log, works)

    def test_all_logs_of_three_people(self):
        for room, delay, ticks in [(1, 0, 2), (2, 1, 1), (1, 2, 1), (0, 1, 2), (2, 2, 0)]:
            told = (THREE, room, delay)
            for waiting in [(), ((1, 0),), ((0, 1), (2, 0))]:
                if all(left < delay for _, left in waiting):
                    for log, works in all_logs(told, (LINE, (1,) * min(1, room), waiting, ticks)):
                        self.check(told, (LINE, (1,) * min(1, room), waiting, ticks), log, works)

    def test_long_logs(self):
        dice, longest = Dice(3), 0
        for archive, order in [(THREE, (2, 0, 1)), (FOUR, (3, 1, 0, 2))]:
            for room in range(4):
                for delay in range(3):
                    for _ in range(12):
                        told, position = (archive, room, delay), (order, (2,) * min(1, room), (), 4)
                        log, works = long_log(told, position, dice)
                        self.check(told, position, log, works)
                        longest = max(longest, len(log))
        self.assertEqual(longest, 5)

    def test_an_empty_log(self):
        for position in [START, LATE, END]:
            for log in ([], ()):
                self.assertEqual(spent(THREE, 1, 1, position, log), [])
                self.assertEqual(after_log(THREE, 1, 1, position, log), position)
                self.assertEqual(asked(THREE, 1, 1, position, log), ())

    def test_only_wishes_of_the_log_were_asked(self):
        log = [(None, ((0, 2), (1,), (), 0))]
        self.assertEqual([function(THREE, 1, 1, LATE, log) for function in FUNCTIONS], [[3], ((0, 2), (1,), (), 0), ()])
        log = [(2, (LINE, (), ((2, 1),), 3)), (None, (LINE, (), ((2, 0),), 2)), (0, ((1,), (), (), 1)), (1, ((1,), (), ((1, 1),), 0))]
        self.assertEqual(asked(THREE, 1, 2, (LINE, (), (), 4), log), (0, 1, 2))
        self.assertEqual(spent(THREE, 1, 2, (LINE, (), (), 4), log), [0, 0, 1, 0])

    def test_new_each_time(self):
        for log in ([], RIGHT, tuple(RIGHT)):
            check_new(self, lambda: spent(THREE, 1, 1, START, log))

    def test_logs_are_neither_modified_nor_kept(self):
        log = list(RIGHT)
        found = spent(THREE, 1, 1, START, log)
        self.assertIsNot(found, log)
        for function in FUNCTIONS:
            function(THREE, 1, 1, START, log)
            self.assertEqual(log, RIGHT)


class BadLogTest(unittest.TestCase):
    def bad(self, index, log, position=START, told=(THREE, 1, 1)):
        for function in FUNCTIONS:
            refused_at(self, BadLog, index, function, (*told, position, log))

    def test_not_a_list_or_tuple(self):
        wrong = [value for value in OTHER_KINDS if not isinstance(value, list)]
        wrong += [0, 1, "0" * 12, {}, {0: RIGHT[0]}, {RIGHT[0]: 1}, dict(RIGHT).items(), iter(RIGHT), iter([]), range(0),
                  (item for item in RIGHT)]
        for log in wrong:
            self.bad(None, log)

    def test_more_than_twelve_items(self):
        for item in (None, RIGHT[0], ()):
            for many in (13, 14, 100):
                self.bad(None, [item] * many)
                self.bad(None, (item,) * many)
        self.bad(None, RIGHT + [None] * 11)
        self.bad(None, tuple(RIGHT) + (None,) * 11)

    def test_twelve_items(self):
        for log in [[None] * 12, (None,) * 12, ["0"] * 12]:
            self.bad(0, log)
        self.bad(2, RIGHT + [(None, END)] * 10)
        self.bad(2, tuple(RIGHT) + (RIGHT[1],) * 10)

    def test_behind_the_end_of_the_play(self):
        dice = Dice(5)
        for delay in range(3):
            for kind in (list, tuple):
                log, _ = long_log((FOUR, 2, delay), ((3, 1, 0, 2), (2,), (), 4), dice)
                end = log[-1][1]
                for more in range(1, 13 - len(log)):
                    self.bad(len(log), kind(log + [(None, end)] * more), ((3, 1, 0, 2), (2,), (), 4), (FOUR, 2, delay))
        self.bad(0, [(None, END)], END)

    def test_an_item_that_is_no_pair(self):
        first, second = RIGHT
        items = OTHER_KINDS + [0, 1, (), (1,), (2,), (1, LATE, 0), (2, END, 0), [1, LATE], [2, END], (LATE,), LATE, END,
                               {1: LATE, 2: END}, "12", b"12", (first,), (second,), ((2, END),), range(2)]
        for item in items:
            self.bad(0, [item])
            self.bad(0, (item, second))
            self.bad(1, [first, item])
            self.bad(1, (first, item, second))
            self.bad(2, RIGHT + [item])

    def test_a_wish_that_is_not_possible_then(self):
        for wish in WRONG_WISHES:
            for later in [LATE, (LINE, (1,), (), 1), START]:
                self.bad(0, [(wish, later)])
            for kind in (list, tuple):
                self.bad(1, kind([RIGHT[0], (wish, END)]))
        self.bad(1, [RIGHT[0], (1, ((0, 2), (), (), 0))])
        self.bad(1, [RIGHT[0], (1, LATE)])
        self.bad(2, RIGHT + [(None, END)])
        self.bad(2, RIGHT + [(0, ((), (), (), 0))])

    def test_a_position_that_no_answer_leads_to(self):
        for later in WRONG_POSITIONS + [START, ((0, 1, 2), (), ((1, 0),), 1), (LINE, (1,), ((1, 0),), 2), ((0, 2), (), (), 0),
                                        ((2, 0), (1,), (), 1), (LINE, (1,), ((1, 0),), True), (LINE, (True,), ((1, 0),), 1),
                                        ((0, True, 2), (1,), ((1, 0),), 1), (LINE, (1,), ((1, False),), 1),
                                        (LINE, (1,), ((True, 0),), 1), ((0, 2), (True,), (), 1), list(LATE)]:
            self.bad(0, [(1, later)])
            self.bad(0, ((1, later), RIGHT[1]))
        for later in WRONG_POSITIONS + [START, LATE, ((0,), (), (), 1), ((1,), (), (), 0), ((0,), (), (), False),
                                        ((False,), (), (), 0), ((), (), (), 0)]:
            self.bad(1, [RIGHT[0], (2, later)])
            self.bad(1, (RIGHT[0], (2, later), RIGHT[1]))
        self.bad(0, [(1, ((0, 2), (), (), 1))], told=(THREE, 1, 1), position=LATE)

    def test_an_object_that_equals_everything(self):
        self.bad(0, [(Same(), LATE)])
        self.bad(0, [(1, Same())])
        self.bad(0, [Same()])
        self.bad(1, [RIGHT[0], (2, Same())])
        self.bad(None, Same())

    def test_every_wrong_pair(self):
        """All pairs of a wish and a position that is possible after some wish, right or wrong."""
        for delay in range(3):
            told, position = (PAIR, 1, delay), ((0, 1), (1,), (), 2)
            for log, works in all_logs(told, position):
                place = log[-1][1] if log else position
                right = [pair for pair, _ in plain_pairs(told, place)]
                laters = {later for _, later in right} | {place, position}
                for wish in (0, 1, 2, None):
                    for later in laters:
                        if (wish, later) in right:
                            self.assertEqual(spent(*told, position, log + [(wish, later)])[:-1], works)
                        else:
                            self.bad(len(log), log + [(wish, later)], position, told)

    def test_the_first_wrong_item_counts(self):
        self.bad(0, [(0, LATE), (2, None), None])
        self.bad(1, [RIGHT[0], (3, END), None])
        self.bad(1, [RIGHT[0], RIGHT[0], None])
        self.bad(0, RIGHT[1:] + RIGHT[:1])

    def test_wrong_arguments(self):
        for function in FUNCTIONS:
            right = (THREE, 1, 2, (LINE, (1,), ((1, 0),), 1), [(0, ((2,), (), (), 0))])
            check_errors(self, function, right, [ARCHIVE, ROOM, DELAY, POSITION, LOG])


class MachineTest(unittest.TestCase):
    def test_long_logs_end_the_play(self):
        dice = Dice(1)
        for delay in range(3):
            log, works = long_log((THREE, 1, delay), (LINE, (), (), 4), dice)
            self.assertEqual(plain_wishes(log[-1][1]), [])
            self.assertEqual(len(log), len(works))


if __name__ == "__main__":
    unittest.main()
