"""Point [4]: positions."""

import unittest

from forgetwork.archives import Archive
from forgetwork.errors import BadPosition, BadWish
from forgetwork.play import answers, wishes
from tests.common import (ARCHIVE, DELAY, POSITION, ROOM, WRONG_WISHES, check_errors, check_new, some_builds,
                          some_waiting)
from tests.plain import plain_answers, plain_wishes

PAIR = Archive((2, 1))
THREE = Archive((2, 1, 3))
LINE = (0, 1, 2)


class WishesTest(unittest.TestCase):
    def test_nobody_waits(self):
        self.assertEqual(wishes(THREE, 1, 1, (LINE, (), (), 1)), [0, 1, 2, None])
        self.assertEqual(wishes(THREE, 1, 0, ((2, 0), (1,), (), 4)), [0, 2, None])
        self.assertEqual(wishes(THREE, 1, 0, ((), (), (), 4)), [None])

    def test_somebody_waits(self):
        self.assertEqual(wishes(THREE, 1, 1, (LINE, (), ((1, 0),), 1)), [0, 2, None])
        self.assertEqual(wishes(THREE, 1, 2, ((2, 1, 0), (), ((0, 1), (2, 0)), 3)), [1, None])
        self.assertEqual(wishes(THREE, 1, 2, ((2, 0), (), ((0, 0), (2, 1)), 3)), [None])

    def test_no_ticks(self):
        self.assertEqual(wishes(THREE, 1, 1, (LINE, (), ((1, 0),), 0)), [None])
        self.assertEqual(wishes(THREE, 1, 2, (LINE, (), ((1, 1), (2, 0)), 0)), [None])

    def test_play_is_over(self):
        self.assertEqual(wishes(THREE, 1, 1, (LINE, (), (), 0)), [])
        self.assertEqual(wishes(THREE, 0, 0, ((), (), (), 0)), [])

    def test_new_each_time(self):
        for position in [(LINE, (), (), 1), (LINE, (), ((1, 0),), 0), (LINE, (), (), 0)]:
            check_new(self, lambda: wishes(THREE, 1, 1, position))


class AnswersTest(unittest.TestCase):
    def test_without_delay_a_wish_cannot_wait(self):
        found = answers(THREE, 1, 0, (LINE, (1,), (), 2), 1)
        self.assertEqual(found, [(3, ((0, 2), (), (), 1)), (3, ((0, 2), (1,), (), 1))])

    def test_nobody_waits_and_nobody_wishes(self):
        for delay in range(3):
            for ticks in range(1, 5):
                found = answers(THREE, 1, delay, (LINE, (2,), (), ticks), None)
                self.assertEqual(found, [(0, (LINE, (2,), (), ticks - 1))])
        self.assertEqual(answers(THREE, 1, 0, ((), (), (), 1), None), [(0, ((), (), (), 0))])

    def test_a_new_wish_can_wait_as_long_as_the_delay(self):
        forgotten = [(4, (order, (), (), 1)) for order in [(1, 2), (2, 1)]]
        for delay in (1, 2):
            found = answers(THREE, 0, delay, (LINE, (), (), 2), 0)
            self.assertEqual(found, [(0, (LINE, (), ((0, delay - 1),), 1))] + forgotten)

    def test_all_waiting_wishes_wait_one_tick_less(self):
        found = answers(THREE, 0, 2, ((2, 1, 0), (), ((1, 1),), 4), 0)
        self.assertEqual(found, [(0, ((2, 1, 0), (), ((0, 1), (1, 0)), 3)), (3, ((2,), (), (), 3))])
        found = answers(THREE, 0, 2, ((2, 1, 0), (), ((1, 1),), 4), 2)
        self.assertEqual(found, [(0, ((2, 1, 0), (), ((1, 0), (2, 1)), 3)), (2, ((0,), (), (), 3))])

    def test_a_wish_that_waits_can_wait_when_nobody_wishes(self):
        found = answers(PAIR, 1, 2, ((0, 1), (1,), ((1, 1),), 1), None)
        self.assertEqual(found, [(0, ((0, 1), (1,), ((1, 0),), 0)), (0, ((0,), (), (), 0))])

    def test_nothing_waits_when_one_wish_cannot(self):
        position = (LINE, (1,), ((1, 0),), 3)
        self.assertEqual(answers(THREE, 1, 2, position, None), [(3, ((0, 2), (), (), 2)), (3, ((0, 2), (1,), (), 2))])
        self.assertEqual(answers(THREE, 1, 2, position, 2), [(0, ((0,), (), (), 2))])
        self.assertEqual(answers(THREE, 1, 2, position, 0), [(3, ((2,), (), (), 2))])
        position = ((0, 1, 2), (), ((0, 1), (2, 0)), 2)
        self.assertEqual(answers(THREE, 0, 2, position, None), [(1, ((1,), (), (), 1))])
        self.assertEqual(answers(THREE, 0, 2, position, 1), [(0, ((), (), (), 1))])

    def test_without_ticks_all_are_forgotten_and_the_ticks_stay(self):
        found = answers(PAIR, 0, 2, ((0, 1), (), ((0, 1),), 0), None)
        self.assertEqual(found, [(1, ((1,), (), (), 0))])
        found = answers(THREE, 0, 2, (LINE, (), ((1, 1),), 0), None)
        self.assertEqual(found, [(5, ((0, 2), (), (), 0)), (5, ((2, 0), (), (), 0))])

    def test_to_the_end_of_the_play(self):
        position, spent = (LINE, (1,), (), 2), []
        for wish, choice in [(2, 0), (0, 0), (None, 0)]:
            self.assertIn(wish, wishes(THREE, 1, 2, position))
            cost, position = answers(THREE, 1, 2, position, wish)[choice]
            spent.append((cost, position))
        self.assertEqual(spent, [(0, (LINE, (1,), ((2, 1),), 1)), (0, (LINE, (1,), ((0, 1), (2, 0)), 0)),
                                 (1, ((1,), (), (), 0))])
        self.assertEqual(wishes(THREE, 1, 2, position), [])

    def test_new_each_time(self):
        check_new(self, lambda: answers(THREE, 1, 1, (LINE, (1,), (), 2), 0))
        check_new(self, lambda: answers(THREE, 1, 1, (LINE, (1,), (), 2), None))


class EveryPositionTest(unittest.TestCase):
    def check(self, archive, room, delay, most_ticks):
        for order, kept in some_builds(len(archive), room):
            for waiting in some_waiting(order, delay):
                for ticks in range(most_ticks + 1):
                    self.check_position(archive, room, delay, (order, kept, waiting, ticks))

    def check_position(self, archive, room, delay, position):
        told = (archive, room, delay, position)
        found = wishes(*told)
        self.assertEqual(found, plain_wishes(position), position)
        for wish in found:
            after = answers(*told, wish)
            self.assertEqual(after, plain_answers(*told, wish), (position, wish))
            for _, later in after:
                self.assertIs(type(wishes(archive, room, delay, later)), list)

    def test_two_people(self):
        for room in range(3):
            for delay in range(3):
                self.check(PAIR, room, delay, 4)

    def test_three_people(self):
        for room in range(4):
            for delay in range(3):
                self.check(THREE, room, delay, 2)

    def test_four_people(self):
        self.check(Archive((4, 1, 3, 2)), 1, 2, 1)


class WrongTest(unittest.TestCase):
    RIGHT = (THREE, 1, 2, (LINE, (1,), ((1, 0),), 2))
    WISHES = (BadWish, WRONG_WISHES)

    def test_wishes(self):
        check_errors(self, wishes, self.RIGHT, [ARCHIVE, ROOM, DELAY, POSITION])

    def test_answers(self):
        check_errors(self, answers, self.RIGHT + (0,), [ARCHIVE, ROOM, DELAY, POSITION, self.WISHES])

    def refused(self, room, delay, position):
        wrong = (BadPosition, [position])
        check_errors(self, wishes, (THREE, room, delay, (LINE, (), (), 1)), [ARCHIVE, ROOM, DELAY, wrong])
        check_errors(self, answers, (THREE, room, delay, (LINE, (), (), 1), 0), [ARCHIVE, ROOM, DELAY, wrong, self.WISHES])

    def test_more_kept_lengths_than_the_room(self):
        for room, kept in [(0, (1,)), (1, (1, 2))]:
            wishes(THREE, room + 1, 0, (LINE, kept, (), 1))
            self.refused(room, 0, (LINE, kept, (), 1))

    def test_waiting_is_limited_by_the_delay(self):
        for delay in (0, 1):
            wishes(THREE, 1, delay + 1, (LINE, (), ((1, delay),), 1))
            self.refused(1, delay, (LINE, (), ((1, delay),), 1))

    def test_impossible_wishes(self):
        positions = [((LINE, (1,), (), 0), [0, 1, 2, None]), (((), (), (), 0), [0, None]), (((), (), (), 2), [0]),
                     ((LINE, (1,), ((1, 0),), 0), [0, 1, 2]), ((LINE, (1,), ((1, 1), (2, 0)), 2), [1, 2]),
                     (((2, 0), (), (), 2), [1, 3])]
        for position, wrong in positions:
            for wish in wrong + self.WISHES[1]:
                with self.subTest(position=position, wish=wish), self.assertRaises(BadWish):
                    answers(THREE, 1, 2, position, wish)


if __name__ == "__main__":
    unittest.main()
