"""Point [5]: the least work."""

import unittest

from forgetwork.archives import Archive
from forgetwork.errors import TooLarge
from forgetwork.evidence import comes_to_more
from forgetwork.total import Total, begin, least_work, total
from tests.common import (ARCHIVE, BUILD, DELAY, LINE, POSITION, ROOM, TICKS, check_errors, check_too_large, some_builds,
                          some_waiting, subsets)
from tests.search import PlainPlay, Search, changed

ONE, PAIR, THREE, FOUR = Archive((3,)), Archive((2, 1)), Archive((2, 1, 3)), Archive((1, 4, 2, 3))
START, END = ((0, 1), (), (), 1), ((0,), (), (), 0)


def search_for(archive, room, delay):
    return Search(PlainPlay(archive, room, delay))


def some_positions(archive, room, delay, ticks):
    return [(order, kept, waiting, left) for order, kept in some_builds(len(archive), room)
            for waiting in some_waiting(order, delay) for left in ticks]


class BeginTest(unittest.TestCase):
    def test_positions(self):
        self.assertEqual(begin(THREE, 1, 1, (LINE, (1,)), 3), (LINE, (1,), (), 3))
        self.assertEqual(begin(THREE, 0, 0, ((), ()), 0), ((), (), (), 0))
        self.assertEqual(begin(FOUR, 3, 2, ((3, 1, 0, 2), (1, 2, 3)), 4), ((3, 1, 0, 2), (1, 2, 3), (), 4))

    def test_wrong_arguments(self):
        check_errors(self, begin, (THREE, 1, 2, (LINE, (1,)), 2), [ARCHIVE, ROOM, DELAY, BUILD, TICKS])


class LeastWorkTest(unittest.TestCase):
    def check(self, search, told, position):
        least = search.least(position)
        self.assertEqual(least_work(*told, position), least, (told, position))
        found = total(*told, position)
        self.assertIs(type(found), Total)
        self.assertEqual((type(found.bound), found.bound), (int, least), (told, position))
        self.assertTrue(search.right_heights(found.heights, position, least), (told, position))
        self.assertTrue(search.right_floors(found.floors, [position], least), (told, position))
        self.assertIs(found.shows(*told, position), True)

    def check_all(self, archive, ticks, every):
        for room in range(4):
            for delay in range(3):
                search = search_for(archive, room, delay)
                for position in some_positions(archive, room, delay, ticks)[::every]:
                    self.check(search, (archive, room, delay), position)

    def test_one_person(self):
        self.check_all(ONE, range(5), 1)

    def test_two_people(self):
        self.check_all(PAIR, range(5), 1)
        self.check_all(Archive((4, 4)), range(5), 3)

    def test_three_people(self):
        self.check_all(THREE, range(3), 1)
        self.check_all(Archive((1, 4, 2)), range(5), 29)

    def test_four_people(self):
        for room in range(4):
            for delay in range(3):
                search = search_for(FOUR, room, delay)
                for order in [(0, 1, 2, 3), (2, 3, 0, 1)]:
                    for kept in subsets(range(1, 4), room):
                        for waiting in some_waiting(order, delay)[::5]:
                            self.check(search, (FOUR, room, delay), (order, kept, waiting, 0))
                            self.check(search, (FOUR, room, delay), (order, kept, waiting, 1))

    def test_nothing_left(self):
        for position in [((), (), (), 4), (LINE, (), (), 0), ((1,), (), (), 4)]:
            found = total(THREE, 1, 2, position)
            self.assertEqual(found.bound, 0)
            self.assertTrue(found.shows(THREE, 1, 2, position))


class TooLargeTest(unittest.TestCase):
    def test_exactly_more_than_500_positions(self):
        seen = set()
        for room in range(4):
            for delay in range(3):
                search = search_for(FOUR, room, delay)
                for order, kept in [((1, 0, 3, 2), kept) for kept in subsets(range(1, 4), room)]:
                    for waiting in [(), ((0, 0),), ((1, 1),), ((2, 0), (3, 1))]:
                        if all(left < delay for _, left in waiting):
                            for ticks in range(5):
                                seen.add(self.check(search, (FOUR, room, delay), (order, kept, waiting, ticks)))
        self.assertEqual(max(many for many in seen if many <= 500), 494)
        self.assertEqual(min(many for many in seen if many > 500), 515)

    def check(self, search, told, position):
        many = len(search.places(position))
        if many > 500:
            for function in (total, least_work):
                with self.assertRaises(TooLarge):
                    function(*told, position)
        elif many > 400:
            self.assertEqual(least_work(*told, position), search.least(position))
        return many

    def test_500_and_501_places(self):
        class Line:
            def __init__(self, many):
                self.many = many

            def moves(self, place):
                return [[(0, place + 1), (0, place)]] * 2 if place < self.many else []

        self.assertFalse(comes_to_more(Line(500), 1, 500))
        self.assertTrue(comes_to_more(Line(501), 1, 500))
        self.assertTrue(comes_to_more(Line(2000), 1, 500))

    def test_shows_of_large_ones(self):
        position = ((0, 1, 2, 3), (), (), 2)
        search = search_for(FOUR, 2, 1)
        self.assertGreater(len(search.places(position)), 500)
        least = search.least(position)
        told = Total(least, search.plan(position), search.claims(position))
        self.assertIs(told.shows(FOUR, 2, 1, position), True)
        self.assertIs(Total(least - 1, told.heights, told.floors).shows(FOUR, 2, 1, position), False)
        self.assertIs(Total(least + 1, told.heights, told.floors).shows(FOUR, 2, 1, position), False)
        self.assertIs(Total(0, {}, {}).shows(FOUR, 2, 1, position), False)


class ShowsTest(unittest.TestCase):
    CASES = [(PAIR, 0, 0, START), (PAIR, 1, 1, ((0, 1), (1,), (), 2)), (PAIR, 1, 2, ((0, 1), (), ((1, 0),), 1)),
             (THREE, 1, 0, (LINE, (2,), (), 2)), (THREE, 2, 1, (LINE, (1, 2), ((2, 0),), 1)),
             (THREE, 1, 2, ((2, 0, 1), (1,), ((0, 1), (2, 0)), 0)), (THREE, 0, 1, ((1, 0), (), (), 3)),
             (THREE, 1, 1, ((1,), (), (), 2)), (THREE, 1, 1, (LINE, (), (), 0))]

    def check(self, search, told, bound, heights, floors):
        least, start = search.least(told[3]), told[3]
        expected = search.right_heights(heights, start, bound) and search.right_floors(floors, [start], bound)
        self.assertIs(Total(bound, heights, floors).shows(*told), expected, (told, bound, heights, floors))
        self.assertTrue(not expected or bound == least)
        return expected

    def test_smaller_and_greater_dicts(self):
        for told in self.CASES:
            search, start = search_for(*told[:3]), told[3]
            least = search.least(start)
            whole = search.all_least((LINE[:len(told[0])], (), (), 4), start)
            for heights in [search.plan(start), search.all_least(start), whole]:
                for floors in [search.claims(start), search.all_least(start), whole]:
                    self.assertTrue(self.check(search, told, least, heights, floors))
                    turned = {place: heights[place] for place in reversed(list(heights))}
                    self.assertIs(Total(least, turned, floors).shows(*told), True)

    def test_a_part_changed(self):
        for told in self.CASES:
            search, start = search_for(*told[:3]), told[3]
            bound, heights, floors = search.least(start), search.plan(start), search.claims(start)
            for other in changed(heights):
                self.check(search, told, bound, other, floors)
            for other in changed(floors):
                self.check(search, told, bound, heights, other)
            whole = search.all_least(start)
            for other in list(changed(whole))[:400]:
                self.check(search, told, bound, other, floors)
                self.check(search, told, bound, heights, other)

    def test_every_other_bound_is_wrong(self):
        for told in self.CASES:
            found = total(*told)
            for bound in range(-2, 12):
                self.assertIs(Total(bound, found.heights, found.floors).shows(*told), bound == found.bound)

    def test_heights(self):
        ends = {END: 0, ((1,), (), (), 0): 0, ((0, 1), (), (), 0): 0}
        floors = {START: 2}
        shown = [
            ({START: 2, **ends}, True), ({START: 1, **ends}, False), ({START: 3, **ends}, False), ({START: 2}, False),
            (ends, False), ({}, False), ({START: 2, **ends, END: -1}, False), ({START: 2, **ends, END: 1}, False),
            ({START: 2, **ends, ((1,), (), (), 0): 1}, True), ({START: 2, **ends, ((1,), (), (), 0): 2}, False),
            ({START: 2, **ends, ((0, 1), (), (), 0): 2}, True), ({START: 2, **ends, ((0, 1), (), (), 0): 3}, False),
            ({START: 2, **ends, ((1, 0), (), (), 1): 2}, False), ({START: 2, **ends, ((1, 0), (), (), 0): 0}, True),
            ({START: 2, **ends, ((1, 0), (), (), 0): 0, ((1, 0), (), (), 1): 2}, True),
            ({START: 2, **ends, ((1, 0), (), (), 0): 0, ((1, 0), (), (), 1): 1}, False),
            ({START: 2, **ends, ((1, 0), (), (), 2): 9}, False), ({START: 2, **ends, ((), (), (), 4): 0}, False),
            ({START: 2, **ends, ((), (), (), 0): 0, ((), (), (), 1): 7}, True)]
        for heights, expected in shown:
            self.assertIs(Total(2, heights, floors).shows(PAIR, 0, 0, START), expected, heights)

    def test_floors(self):
        heights = total(PAIR, 0, 0, START).heights
        shown = [({START: 2}, True), ({START: 3}, False), ({START: 1}, False), ({START: 0}, False), ({START: -2}, False),
                 ({}, False), ({START: 2, END: 0}, True), ({START: 2, END: -5}, True), ({START: 2, END: 1}, False),
                 ({START: 2, ((1, 0), (), (), 1): 2}, True), ({START: 2, ((1, 0), (), (), 1): 3}, False),
                 ({START: 2, ((1,), (), (), 1): 1}, False), ({START: 2, ((1,), (), (), 0): -1}, True)]
        for floors, expected in shown:
            self.assertIs(Total(2, heights, floors).shows(PAIR, 0, 0, START), expected, floors)

    def test_no_floor_is_needed_where_the_bound_is_0(self):
        position = ((1,), (), (), 2)
        heights = total(PAIR, 0, 0, position).heights
        for floors, expected in [({}, True), ({position: 0}, True), ({position: -1}, True), ({position: 1}, False)]:
            self.assertIs(Total(0, heights, floors).shows(PAIR, 0, 0, position), expected)
        self.assertIs(Total(-1, heights, {}).shows(PAIR, 0, 0, position), False)
        self.assertIs(Total(-1, {position: -1}, {}).shows(PAIR, 0, 0, position), False)

    def test_a_floor_that_is_less_than_0_counts_as_0(self):
        position = ((0, 1), (), (), 2)
        told = Total(2, total(PAIR, 0, 0, position).heights, {position: 2, ((1,), (), (), 1): -9, ((0,), (), (), 1): -1})
        self.assertIs(told.shows(PAIR, 0, 0, position), True)

    def test_what_waits_at_the_end_must_be_forgotten(self):
        position = ((0, 1), (), ((0, 0),), 0)
        end = ((1,), (), (), 0)
        self.assertIs(Total(1, {position: 1, end: 0}, {position: 1}).shows(PAIR, 0, 1, position), True)
        self.assertIs(Total(0, {position: 0, end: 0}, {}).shows(PAIR, 0, 1, position), False)
        self.assertIs(Total(1, {position: 1}, {position: 1}).shows(PAIR, 0, 1, position), False)

    def test_positions_of_another_play_make_it_wrong(self):
        heights = {START: 2, END: 0, ((1,), (), (), 0): 0, ((0, 1), (), (), 0): 0}
        others = [((0, 1), (1,), (), 0), ((0, 1), (), ((0, 0),), 0), ((0, 2), (), (), 0), ((0, 1), (), (), 5), None, 7, ()]
        for other in others:
            self.assertIs(Total(2, {**heights, other: 0}, {START: 2}).shows(PAIR, 0, 0, START), False, other)
            self.assertIs(Total(2, heights, {START: 2, other: 0}).shows(PAIR, 0, 0, START), False, other)
        twice = {((0, True), (), (), 1): 2, END: 0, ((1,), (), (), 0): 0, ((0, 1), (), (), 0): 0}
        self.assertIs(Total(2, twice, {START: 2}).shows(PAIR, 0, 0, START), False)
        self.assertIs(Total(2, heights, {((False, 1), (), (), 1): 2}).shows(PAIR, 0, 0, START), False)

    def test_booleans_are_no_integers(self):
        position, end = ((0, 1), (), (), 1), ((1,), (), (), 0)
        archive = Archive((1, 1))
        heights = {position: 1, end: 0, END: 0, ((0, 1), (), (), 0): 0}
        self.assertIs(Total(1, heights, {position: 1}).shows(archive, 0, 0, position), True)
        self.assertIs(Total(True, heights, {position: 1}).shows(archive, 0, 0, position), False)
        self.assertIs(Total(1, {**heights, position: True}, {position: 1}).shows(archive, 0, 0, position), False)
        self.assertIs(Total(1, {**heights, end: False}, {position: 1}).shows(archive, 0, 0, position), False)
        self.assertIs(Total(1, heights, {position: True}).shows(archive, 0, 0, position), False)
        self.assertIs(Total(1, heights, {position: 1, end: False}).shows(archive, 0, 0, position), False)

    def test_of_another_position_or_play(self):
        found = total(THREE, 1, 1, (LINE, (), (), 2))
        self.assertIs(found.shows(THREE, 1, 1, (LINE, (1,), (), 2)), False)
        self.assertIs(found.shows(THREE, 1, 2, (LINE, (), (), 2)), False)
        self.assertIs(found.shows(Archive((4, 1, 3)), 1, 1, (LINE, (), (), 2)), False)
        self.assertIs(found.shows(FOUR, 1, 1, (LINE, (), (), 2)), False)

    def test_the_current_attributes(self):
        told = (PAIR, 0, 0, START)
        found = total(*told)
        found.bound = 3
        self.assertIs(found.shows(*told), False)
        found.bound = 2
        self.assertIs(found.shows(*told), True)
        found.heights[START] = 1
        self.assertIs(found.shows(*told), False)
        found.heights = {START: 2, END: 0, ((1,), (), (), 0): 0, ((0, 1), (), (), 0): 0}
        self.assertIs(found.shows(*told), True)
        del found.floors[START]
        self.assertIs(found.shows(*told), False)
        found.floors = {START: 2}
        self.assertIs(found.shows(*told), True)

    def test_shows_changes_nothing(self):
        heights, floors = {START: 2, END: 0, ((1,), (), (), 0): 0, ((0, 1), (), (), 0): 0}, {START: 2}
        told = Total(2, heights, floors)
        told.shows(PAIR, 0, 0, START)
        self.assertEqual((told.bound, told.heights, told.floors), (2, heights, floors))


class TotalTest(unittest.TestCase):
    def test_attributes_and_copies(self):
        heights, floors = {START: 2, END: 0}, {START: 1}
        told = Total(2, heights, floors)
        self.assertEqual((told.bound, told.heights, told.floors), (2, {START: 2, END: 0}, {START: 1}))
        self.assertEqual([type(told.heights), type(told.floors)], [dict, dict])
        heights[START] = floors[START] = 7
        heights.pop(END)
        self.assertEqual((told.heights, told.floors), ({START: 2, END: 0}, {START: 1}))
        told.heights.clear()
        self.assertEqual(heights, {START: 7})

    def test_heights_and_floors_are_dicts_of_their_own(self):
        same = {START: 2}
        told = Total(2, same, same)
        self.assertIsNot(told.heights, told.floors)
        found = total(PAIR, 0, 0, START)
        self.assertIsNot(found.heights, found.floors)
        found.heights.clear()
        self.assertTrue(total(PAIR, 0, 0, START).shows(PAIR, 0, 0, START))

    def test_equality(self):
        told = Total(2, {START: 2, END: 0}, {START: 1, END: 0})
        self.assertTrue(told == Total(2, {END: 0, START: 2}, {END: 0, START: 1}))
        self.assertFalse(told != Total(2, {END: 0, START: 2}, {END: 0, START: 1}))
        for other in [Total(3, told.heights, told.floors), Total(2, {START: 2}, told.floors),
                      Total(2, told.heights, {START: 1}), Total(2, {START: 2, END: 1}, told.floors), Archive((2, 1))]:
            self.assertIs(told == other, False)
            self.assertIs(told != other, True)
        self.assertEqual(total(PAIR, 1, 1, START), total(PAIR, 1, 1, START))


class WrongTest(unittest.TestCase):
    RIGHT = (THREE, 1, 2, (LINE, (1,), ((1, 0),), 1))
    LARGE = (FOUR, 2, 1, ((0, 1, 2, 3), (), (), 4))

    def test_wrong_arguments(self):
        for function in (total, least_work, total(*self.RIGHT).shows, Total(0, {}, {}).shows):
            check_errors(self, function, self.RIGHT, [ARCHIVE, ROOM, DELAY, POSITION])

    def test_too_large_counts_least(self):
        wrong = (POSITION[0], [((0, 1, 2, 4), (), (), 4), ((0, 1, 2, 3), (1, 2, 3), (), 4), ((0, 1, 2, 3), (), ((0, 1),), 4),
                               ((0, 1, 2, 3), (), (), 5), ((0, 1, 2, 3), (), (), True), None])
        for function in (total, least_work):
            check_too_large(self, function, self.LARGE, [ARCHIVE, ROOM, DELAY, wrong])


if __name__ == "__main__":
    unittest.main()
