"""Point [9]: keepers."""

import unittest

from forgetwork.archives import Archive
from forgetwork.errors import BadKeeper, BadWish
from forgetwork.keepers import KEEPERS, Worst, answer, most_work, worst
from forgetwork.play import answers
from forgetwork.total import Total, least_work
from tests import keeping
from tests.common import (ARCHIVE, DELAY, KEEPER, LINE, POSITION, ROOM, WISH, check_errors, refused, some_builds,
                          some_waiting)
from tests.keeping import Keeping
from tests.plain import plain_answers, plain_wishes
from tests.search import changed

ONE, PAIR, THREE, FOUR = Archive((3,)), Archive((2, 1)), Archive((2, 1, 3)), Archive((1, 4, 2, 3))
WHOLE = (0, 1, 2, 3)
START = ((0, 1), (), (), 1)
ENDS = {((0,), (), (), 0): 0, ((1,), (), (), 0): 0, ((0, 1), (), (), 0): 0}


def positions(archive, room, delay, ticks):
    return [(order, kept, waiting, left) for order, kept in some_builds(len(archive), room)
            for waiting in some_waiting(order, delay) for left in ticks]


class EveryPosition:
    """Checks all keepers at all positions of an archive with these ticks, or at one of so many of them."""

    def check_all(self, archive, ticks, every=1):
        for room in range(4):
            for delay in range(3):
                for position in positions(archive, room, delay, ticks)[::every]:
                    for keeper in KEEPERS:
                        self.check((archive, room, delay), position, keeper)


class KeepersTest(unittest.TestCase):
    def test_the_four_words_in_order(self):
        self.assertEqual(KEEPERS, ("none", "low", "high", "lazy"))
        self.assertIs(type(KEEPERS), tuple)


class AnswerTest(EveryPosition, unittest.TestCase):
    def check(self, told, position, keeper):
        for wish in plain_wishes(position):
            found = answer(*told, position, wish, keeper)
            self.assertEqual(found, keeping.plain_reply(*told, position, wish, keeper), (told, position, wish, keeper))
            self.assertIn(found, plain_answers(*told, position, wish))
            self.assertEqual([type(found), type(found[0]), type(found[1])], [tuple, int, tuple])

    def test_one_and_two_people(self):
        self.check_all(ONE, range(5))
        self.check_all(PAIR, range(5))

    def test_three_people(self):
        self.check_all(THREE, (0, 1, 4))

    def test_four_people(self):
        self.check_all(FOUR, (0, 1), 11)
        self.check_all(FOUR, (2, 3), 37)

    def test_what_can_be_kept_behind_a_base(self):
        position = (WHOLE, (1,), (), 2)
        orders = [answer(FOUR, 3, 0, position, 2, keeper) for keeper in KEEPERS]
        self.assertEqual(orders, [(7, ((0, 1, 3), kept, (), 1)) for kept in [(), (1, 2), (1, 2), (1, 2)]])
        orders = [answer(FOUR, 1, 0, position, 2, keeper) for keeper in KEEPERS]
        self.assertEqual(orders, [(7, ((0, 1, 3), kept, (), 1)) for kept in [(), (1,), (2,), (2,)]])

    def test_what_was_not_kept_cannot_be_kept_now(self):
        position = (WHOLE, (2,), (), 2)
        found = [answer(FOUR, 3, 0, position, 3, keeper)[1][1] for keeper in KEEPERS]
        self.assertEqual(found, [(), (2,), (2,), (2,)])
        found = [answer(FOUR, 3, 0, position, 2, keeper) for keeper in KEEPERS]
        self.assertEqual(found, [(3, ((0, 1, 3), kept, (), 1)) for kept in [(), (2,), (2,), (2,)]])

    def test_as_many_as_the_room_allows(self):
        position = (WHOLE, (), (), 2)
        for room, low, high in [(0, (), ()), (1, (1,), (2,)), (2, (1, 2), (1, 2)), (3, (1, 2), (1, 2))]:
            self.assertEqual(answer(FOUR, room, 0, position, 1, "low"), (6, ((0, 2, 3), low, (), 1)))
            self.assertEqual(answer(FOUR, room, 0, position, 1, "high"), (6, ((0, 2, 3), high, (), 1)))

    def test_the_old_order(self):
        position = ((3, 1, 2, 0), (), (), 1)
        for keeper in KEEPERS:
            self.assertEqual(answer(FOUR, 0, 0, position, 1, keeper), (6, ((3, 2, 0), (), (), 0)))

    def test_the_lazy_one_waits_whenever_it_can(self):
        start = (LINE, (1,), (), 2)
        late = (LINE, (1,), ((0, 0),), 1)
        self.assertEqual(answer(THREE, 1, 1, start, 0, "lazy"), (0, late))
        self.assertEqual(answer(THREE, 1, 1, start, 0, "high"), (4, ((1, 2), (1,), (), 1)))
        self.assertEqual(answer(THREE, 1, 1, late, None, "lazy"), (4, ((1, 2), (1,), (), 0)))
        self.assertEqual(answer(THREE, 1, 1, late, 2, "lazy"), (1, ((1,), (), (), 0)))
        self.assertEqual(answer(THREE, 1, 0, start, 0, "lazy"), (4, ((1, 2), (1,), (), 1)))
        later = (LINE, (1,), ((0, 1),), 1)
        self.assertEqual(answer(THREE, 1, 2, later, 1, "lazy"), (0, (LINE, (1,), ((0, 0), (1, 1)), 0)))
        self.assertEqual(answer(THREE, 1, 2, later, None, "lazy"), (0, (LINE, (1,), ((0, 0),), 0)))

    def test_without_ticks_nobody_can_wait(self):
        position = (LINE, (1,), ((1, 1),), 0)
        for keeper, kept in [("none", ()), ("low", (1,)), ("high", (1,)), ("lazy", (1,))]:
            self.assertEqual(answer(THREE, 1, 2, position, None, keeper), (3, ((0, 2), kept, (), 0)))

    def test_all_wait_if_no_wish_does(self):
        for keeper in KEEPERS:
            for delay in range(3):
                found = answer(THREE, 2, delay, (LINE, (2,), (), 3), None, keeper)
                self.assertEqual(found, (0, (LINE, (2,), (), 2)))

    def test_only_the_lazy_one_lets_wishes_wait(self):
        position = (LINE, (1,), ((2, 1),), 2)
        found = [answer(THREE, 1, 2, position, None, keeper) for keeper in KEEPERS]
        self.assertEqual(found, [(1, ((0, 1), (), (), 1)), (1, ((0, 1), (1,), (), 1)), (1, ((0, 1), (1,), (), 1)),
                                 (0, (LINE, (1,), ((2, 0),), 1))])


class WorstTest(EveryPosition, unittest.TestCase):
    def check(self, told, position, keeper):
        plain = Keeping(*told, keeper)
        most = max(total for _, total in plain.lists(position))
        found = worst(*told, position, keeper)
        self.assertIs(type(found), Worst)
        self.assertEqual([type(found.total), type(found.wishes), type(found.heights)], [int, list, dict])
        self.assertEqual((found.total, most_work(*told, position, keeper)), (most, most), (told, position, keeper))
        self.assertTrue(plain.right(position, found.total, found.wishes, found.heights), (told, position, keeper))
        self.assertIs(found.shows(*told, position, keeper), True)

    def test_one_and_two_people(self):
        self.check_all(ONE, range(5))
        self.check_all(PAIR, range(5), 3)

    def test_three_people(self):
        self.check_all(THREE, range(3), 13)
        self.check_all(Archive((1, 4, 2)), range(5), 59)

    def test_four_people(self):
        self.check_all(FOUR, range(2), 101)
        for keeper in KEEPERS:
            self.check((FOUR, 1, 1), (WHOLE, (2,), (), 4), keeper)
            self.check((FOUR, 2, 2), ((3, 1, 0, 2), (1,), ((1, 0),), 3), keeper)

    def test_many_positions_are_not_too_large(self):
        for keeper in KEEPERS:
            found = worst(FOUR, 3, 2, (WHOLE, (1, 2, 3), (), 4), keeper)
            self.assertTrue(found.shows(FOUR, 3, 2, (WHOLE, (1, 2, 3), (), 4), keeper))

    def test_no_keeper_needs_less_than_the_least_work(self):
        for delay in range(3):
            for kept in [(), (1,), (2,)]:
                for ticks in range(4):
                    position = (LINE, kept, (), ticks)
                    least = least_work(THREE, 1, delay, position)
                    self.assertTrue(all(most_work(THREE, 1, delay, position, keeper) >= least for keeper in KEEPERS))

    def test_play_is_over(self):
        for keeper in KEEPERS:
            found = worst(THREE, 1, 1, (LINE, (1,), (), 0), keeper)
            self.assertEqual((found.total, found.wishes), (0, []))
            self.assertIs(Worst(0, [], {(LINE, (1,), (), 0): 0}).shows(THREE, 1, 1, (LINE, (1,), (), 0), keeper), True)

    def test_only_None_is_left(self):
        position = (LINE, (1,), ((0, 0),), 0)
        self.assertEqual(worst(THREE, 1, 1, position, "low").wishes, [None])
        self.assertEqual(worst(THREE, 1, 1, ((), (), (), 2), "low").wishes, [None, None])

    def test_attributes_and_copies(self):
        wishes, heights = [1, None], {START: 2}
        told = Worst(3, wishes, heights)
        self.assertEqual((told.total, told.wishes, told.heights), (3, [1, None], {START: 2}))
        wishes.append(0)
        heights[START] = 7
        self.assertEqual((told.total, told.wishes, told.heights), (3, [1, None], {START: 2}))
        told.wishes.clear()
        told.heights.clear()
        self.assertEqual((wishes, heights), ([1, None, 0], {START: 7}))

    def test_iteration_each_time_anew(self):
        told = Worst(3, [1, None, 0], {})
        self.assertEqual([list(told), list(told)], [[1, None, 0]] * 2)
        self.assertEqual([(one, two) for one in told for two in told],
                         [(one, two) for one in [1, None, 0] for two in [1, None, 0]])
        self.assertEqual(list(Worst(0, [], {START: 0})), [])
        told.wishes = [2]
        self.assertEqual(list(told), [2])

    def test_equality(self):
        told = Worst(3, [1, None], {START: 3, **ENDS})
        same = Worst(3, [1, None], {**ENDS, START: 3})
        self.assertTrue(told == same)
        self.assertFalse(told != same)
        for other in [Worst(2, told.wishes, told.heights), Worst(3, [None, 1], told.heights), Worst(3, [1], told.heights),
                      Worst(3, told.wishes, {START: 3}), Worst(3, told.wishes, {**told.heights, START: 2}),
                      Total(3, told.heights, {}), PAIR]:
            self.assertIs(told == other, False)
            self.assertIs(told != other, True)
        for keeper in KEEPERS:
            once, again = [worst(THREE, 1, 1, (LINE, (1,), (), 2), keeper) for _ in range(2)]
            self.assertEqual(once, again)
            self.assertIsNot(once.wishes, again.wishes)
            self.assertIsNot(once.heights, again.heights)


class ShowsTest(unittest.TestCase):
    CASES = [(PAIR, 0, 0, START), (PAIR, 1, 1, ((0, 1), (1,), (), 2)), (PAIR, 1, 2, ((0, 1), (), ((1, 0),), 1)),
             (THREE, 1, 0, (LINE, (2,), (), 2)), (THREE, 2, 1, (LINE, (1, 2), ((2, 0),), 1)),
             (THREE, 1, 2, ((2, 0, 1), (1,), ((0, 1), (2, 0)), 0)), (THREE, 0, 1, ((1, 0), (), (), 3)),
             (THREE, 1, 1, ((1,), (), (), 2)), (THREE, 1, 1, (LINE, (), (), 0))]

    def check(self, plain, start, total, wishes, heights):
        expected = plain.right(start, total, wishes, heights)
        found = Worst(total, wishes, heights).shows(*plain.told, start, plain.keeper)
        self.assertIs(found, expected, (plain.told, start, plain.keeper, total, wishes, heights))
        return found

    def each(self):
        for *told, start in self.CASES:
            for keeper in KEEPERS:
                plain = Keeping(*told, keeper)
                lists = plain.lists(start)
                yield plain, start, max(total for _, total in lists), lists, plain.heights(start)

    def test_all_lists_of_wishes(self):
        for plain, start, most, lists, heights in self.each():
            right = [self.check(plain, start, most, wishes, heights) for wishes, _ in lists]
            self.assertEqual(right, [total == most for _, total in lists])
            for wishes, total in lists:
                if total < most:
                    self.check(plain, start, total, wishes, heights)

    def test_wishes_with_a_part_changed(self):
        for plain, start, most, lists, heights in self.each():
            wishes = next(wishes for wishes, total in lists if total == most)
            for other in (0, 1, 2, 3, 4, -1, None):
                for at in range(len(wishes)):
                    self.check(plain, start, most, wishes[:at] + [other] + wishes[at + 1:], heights)
                    self.check(plain, start, most, wishes[:at] + [other] + wishes[at:], heights)
                self.assertFalse(self.check(plain, start, most, wishes + [other], heights))
            for at in range(len(wishes)):
                self.check(plain, start, most, wishes[:at] + wishes[at + 1:], heights)
                self.assertFalse(self.check(plain, start, most, wishes[:at], heights))

    def test_heights_with_a_part_changed(self):
        for plain, start, most, lists, heights in self.each():
            wishes = next(wishes for wishes, total in lists if total == most)
            for other in changed(heights):
                self.check(plain, start, most, wishes, other)
            self.assertFalse(self.check(plain, start, most, wishes, {}))

    def test_greater_dicts_and_another_order(self):
        for plain, start, most, lists, heights in self.each():
            wishes = next(wishes for wishes, total in lists if total == most)
            order = LINE[:len(plain.told[0])]
            whole = {**plain.heights((order, (), (), 4)), **heights}
            self.assertTrue(self.check(plain, start, most, wishes, whole))
            turned = {place: whole[place] for place in reversed(list(whole))}
            self.assertTrue(self.check(plain, start, most, wishes, turned))
            more = {**whole, (order, (), (), 1): 30, (order, (), (), 0): 3}
            self.check(plain, start, most, wishes, more)

    def test_every_other_total_is_wrong(self):
        for plain, start, most, lists, heights in self.each():
            wishes = next(wishes for wishes, total in lists if total == most)
            for total in range(-2, 14):
                self.assertIs(self.check(plain, start, total, wishes, heights), total == most)

    def test_known_ones(self):
        shown = [(2, [1], {START: 2, **ENDS}, True), (2, [0], {START: 2, **ENDS}, False), (1, [0], {START: 1, **ENDS}, False),
                 (1, [0], {START: 2, **ENDS}, False), (2, [1], {START: 1, **ENDS}, False), (2, [1], {START: 3, **ENDS}, False),
                 (3, [1], {START: 3, **ENDS}, False), (2, [], {START: 2, **ENDS}, False), (2, [1], {START: 2}, False),
                 (2, [1, None], {START: 2, **ENDS}, False), (2, [2], {START: 2, **ENDS}, False), (2, [1], ENDS, False),
                 (2, [None], {START: 2, **ENDS}, False), (0, [None], {START: 2, **ENDS}, False),
                 (2, [1], {START: 2, **ENDS, ((1,), (), (), 0): 1}, True),
                 (2, [1], {START: 2, **ENDS, ((1,), (), (), 0): 2}, False),
                 (2, [1], {START: 2, **ENDS, ((1,), (), (), 0): -1}, False),
                 (2, [1], {START: 2, **ENDS, ((1, 0), (), (), 0): -1}, False),
                 (2, [1], {START: 2, **ENDS, ((1, 0), (), (), 0): 9}, True)]
        for total, wishes, heights, expected in shown:
            for keeper in KEEPERS:
                self.assertIs(Worst(total, wishes, heights).shows(PAIR, 0, 0, START, keeper), expected)

    def test_heights_of_another_keeper(self):
        position = (WHOLE, (1,), (), 2)
        for keeper in KEEPERS:
            for other in KEEPERS:
                found = worst(FOUR, 1, 1, position, other)
                plain = Keeping(FOUR, 1, 1, keeper)
                expected = plain.right(position, found.total, found.wishes, found.heights)
                self.assertIs(found.shows(FOUR, 1, 1, position, keeper), expected)
        self.assertIs(worst(FOUR, 1, 1, position, "none").shows(FOUR, 1, 1, position, "lazy"), False)

    def test_positions_of_another_play_make_it_wrong(self):
        heights = {START: 2, **ENDS}
        others = [((0, 1), (1,), (), 0), ((0, 1), (), ((0, 0),), 0), ((0, 2), (), (), 0), ((0, 1), (), (), 5), None, 7, (),
                  ((0, 1), (), (), True), ((False, 1), (), (), 3)]
        for other in others:
            self.assertIs(Worst(2, [1], {**heights, other: 0}).shows(PAIR, 0, 0, START, "low"), False, other)
        ends = [((0,), (), (), 0), ((1,), (), (), 0)]
        for first, last in [(((0, True), (), (), 1), ((0, 1), (), (), 0)), (START, ((0, 1), (), (), False)),
                            (START, ((False, 1), (), (), 0))]:
            told = Worst(2, [1], {first: 2, last: 0, ends[0]: 0, ends[1]: 0})
            self.assertIs(told.shows(PAIR, 0, 0, START, "low"), False)

    def test_booleans_are_no_integers(self):
        archive, heights = Archive((1, 1)), {START: 1, **ENDS}
        for keeper in KEEPERS:
            for wishes in ([0], [1]):
                self.assertIs(Worst(1, wishes, heights).shows(archive, 0, 0, START, keeper), True)
                self.assertIs(Worst(True, wishes, heights).shows(archive, 0, 0, START, keeper), False)
                self.assertIs(Worst(1, [bool(wishes[0])], heights).shows(archive, 0, 0, START, keeper), False)
            self.assertIs(Worst(1, [0], {**heights, START: True}).shows(archive, 0, 0, START, keeper), False)
            self.assertIs(Worst(1, [0], {**heights, ((0, 1), (), (), 0): False}).shows(archive, 0, 0, START, keeper), False)
            self.assertIs(Worst(False, [], {((0,), (), (), 0): 0}).shows(ONE, 0, 0, ((0,), (), (), 0), keeper), False)

    def test_of_another_position_or_play(self):
        found = worst(THREE, 1, 1, (LINE, (), (), 2), "low")
        self.assertIs(found.shows(THREE, 1, 1, (LINE, (), (), 2), "low"), True)
        self.assertIs(found.shows(THREE, 1, 1, (LINE, (1,), (), 2), "low"), False)
        self.assertIs(found.shows(THREE, 1, 1, (LINE, (), (), 3), "low"), False)
        self.assertIs(found.shows(Archive((4, 1, 3)), 1, 1, (LINE, (), (), 2), "low"), False)
        self.assertIs(found.shows(THREE, 0, 1, (LINE, (), (), 2), "low"), False)

    def test_the_current_attributes(self):
        told = (PAIR, 0, 0, START, "low")
        found = worst(*told)
        self.assertEqual((found.total, found.wishes), (2, [1]))
        found.total = 1
        self.assertIs(found.shows(*told), False)
        found.total = 2
        found.wishes.append(None)
        self.assertIs(found.shows(*told), False)
        found.wishes = [1]
        self.assertIs(found.shows(*told), True)
        found.wishes[0] = 0
        self.assertIs(found.shows(*told), False)
        found.wishes[0] = 1
        found.heights[START] = 1
        self.assertIs(found.shows(*told), False)
        found.heights = {START: 2, **ENDS}
        self.assertIs(found.shows(*told), True)
        del found.heights[((0, 1), (), (), 0)]
        self.assertIs(found.shows(*told), False)

    def test_shows_changes_nothing(self):
        wishes, heights = [1], {START: 2, **ENDS}
        told = Worst(2, wishes, heights)
        told.shows(PAIR, 0, 0, START, "low")
        self.assertEqual((told.total, told.wishes, told.heights), (2, [1], {START: 2, **ENDS}))


class WrongTest(unittest.TestCase):
    RIGHT = (THREE, 1, 2, (LINE, (1,), ((1, 0),), 1))

    def test_answer(self):
        wrong = [ARCHIVE, ROOM, DELAY, POSITION, WISH, KEEPER]
        check_errors(self, answer, self.RIGHT + (0, "low"), wrong)

    def test_impossible_wishes(self):
        cases = [((LINE, (1,), (), 0), [0, None]), ((LINE, (1,), ((1, 0),), 0), [0, 1]), (((2, 0), (), (), 2), [1, 3]),
                 ((LINE, (1,), ((1, 1), (2, 0)), 2), [1, 2])]
        for position, others in cases:
            for wish in others:
                for keeper in KEEPERS + ("other", None):
                    refused(self, BadWish, answer, (THREE, 1, 2, position, wish, keeper))

    def test_worst(self):
        found = worst(*self.RIGHT, "low")
        for function in (worst, most_work, found.shows, Worst(0, [], {}).shows):
            check_errors(self, function, self.RIGHT + ("low",), [ARCHIVE, ROOM, DELAY, POSITION, KEEPER])

    def test_a_keeper_where_the_play_is_over(self):
        for function in (worst, most_work, Worst(0, [], {}).shows):
            refused(self, BadKeeper, function, (THREE, 1, 1, (LINE, (), (), 0), "lowest"))

    def test_every_keeper_is_right(self):
        for keeper in KEEPERS:
            self.assertIn(answer(*self.RIGHT, 0, keeper), answers(*self.RIGHT, 0))


if __name__ == "__main__":
    unittest.main()
