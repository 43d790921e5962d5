"""Point [6]: the best build."""

import unittest
from itertools import permutations

from forgetwork.archives import Archive
from forgetwork.choices import Choice, best_work, choose, least_pairs
from forgetwork.total import Total
from tests.common import (ARCHIVE, DELAY, LINE, ROOM, TICKS, WRONG_BUILDS, check_errors, check_new, check_too_large,
                          subsets)
from tests.search import PlainPlay, Search, changed

ONE, PAIR, THREE, FOUR = Archive((3,)), Archive((2, 1)), Archive((2, 1, 3)), Archive((1, 1, 1, 1))
ARCHIVES = [ONE, Archive((1,)), PAIR, Archive((4, 4)), THREE, Archive((1, 1, 1)), Archive((4, 1, 2))]


def search_for(archive, room, delay):
    return Search(PlainPlay(archive, room, delay))


def whole_builds(archive, room):
    people = range(len(archive))
    return sorted((order, kept) for order in permutations(people) for kept in subsets(people[1:], room))


def start(build, ticks):
    return (*build, (), ticks)


def starts(archive, room, ticks):
    return [start(build, ticks) for build in whole_builds(archive, room)]


class ChooseTest(unittest.TestCase):
    def check(self, search, told):
        archive, room, delay, ticks = told
        works = {build: search.least(start(build, ticks)) for build in whole_builds(archive, room)}
        least = min(works.values())
        found = choose(*told)
        self.assertIs(type(found), Choice)
        self.assertEqual(found.bound, least, told)
        self.assertEqual(found.build, min(build for build in works if works[build] == least), told)
        self.assertEqual(best_work(*told), least, told)
        self.assertTrue(search.right_heights(found.heights, start(found.build, ticks), least), told)
        self.assertTrue(search.right_floors(found.floors, starts(archive, room, ticks), least), told)
        self.assertIs(found.shows(*told), True)

    def test_all_small_ones(self):
        for archive in ARCHIVES:
            for room in range(4):
                for delay in range(3):
                    search = search_for(archive, room, delay)
                    for ticks in range(5):
                        self.check(search, (archive, room, delay, ticks))

    def test_kinds_of_values(self):
        found = choose(THREE, 1, 1, 2)
        self.assertEqual([type(found.build), type(found.bound), type(found.heights), type(found.floors)],
                         [tuple, int, dict, dict])
        self.assertIsNot(found.heights, found.floors)

    def test_more_than_500_positions_are_not_too_large(self):
        search = search_for(THREE, 2, 2)
        self.assertGreater(len(search.places(*starts(THREE, 2, 4))), 500)
        self.assertTrue(choose(THREE, 2, 2, 4).shows(THREE, 2, 2, 4))


class LeastPairsTest(unittest.TestCase):
    def test_all_small_ones(self):
        for archive in ARCHIVES:
            for delay in range(3):
                for ticks in range(5):
                    rooms = range(len(archive))
                    works = [min(search_for(archive, room, delay).least(place) for place in starts(archive, room, ticks))
                             for room in rooms]
                    expected = [(room, works[room]) for room in rooms if works[room] not in works[:room]]
                    found = least_pairs(archive, delay, ticks)
                    self.assertEqual(found, expected, (archive.sizes, delay, ticks))
                    self.assertTrue(all(type(pair) is tuple for pair in found))

    def test_known_ones(self):
        self.assertEqual(least_pairs(ONE, 0, 4), [(0, 0)])
        self.assertEqual(least_pairs(PAIR, 0, 2), [(0, 2), (1, 1)])
        self.assertEqual(least_pairs(THREE, 0, 1), [(0, 5), (1, 3)])
        self.assertEqual(least_pairs(THREE, 0, 0), [(0, 0)])

    def test_new_each_time(self):
        check_new(self, lambda: least_pairs(PAIR, 0, 2))


class ShowsTest(unittest.TestCase):
    CASES = [(ONE, 0, 1, 2), (PAIR, 0, 0, 1), (PAIR, 1, 0, 2), (PAIR, 1, 2, 2), (THREE, 0, 1, 1), (THREE, 1, 0, 2),
             (THREE, 2, 1, 1), (THREE, 1, 2, 0)]

    def small(self, told):
        """A Choice with as little evidence as one plan of each side needs."""
        archive, room, delay, ticks = told
        search, places = search_for(archive, room, delay), starts(archive, room, ticks)
        bound = min(search.least(place) for place in places)
        build = next(build for build in whole_builds(archive, room) if search.least(start(build, ticks)) == bound)
        return Choice(build, bound, search.plan(start(build, ticks)), search.claims(*places) if bound else {})

    def test_smaller_and_greater_dicts(self):
        for told in self.CASES:
            archive, room, delay, ticks = told
            small = self.small(told)
            self.assertIs(small.shows(*told), True)
            whole = search_for(archive, room, delay).all_least(*starts(archive, room, 3))
            self.assertIs(Choice(small.build, small.bound, whole, whole).shows(*told), True)
            turned = {place: whole[place] for place in reversed(list(whole))}
            self.assertIs(Choice(small.build, small.bound, turned, turned).shows(*told), True)

    def test_every_build(self):
        for told in self.CASES:
            archive, room, delay, ticks = told
            search, found = search_for(archive, room, delay), choose(*told)
            for build in whole_builds(archive, room):
                plan, own = search.plan(start(build, ticks)), search.least(start(build, ticks))
                whole = {**found.heights, **plan}
                for heights in (plan, whole):
                    self.assertIs(Choice(build, found.bound, heights, found.floors).shows(*told), own == found.bound)
                    self.assertIs(Choice(build, own, heights, found.floors).shows(*told), own == found.bound)

    def test_no_build_of_all_people(self):
        found = choose(THREE, 1, 1, 2)
        pairs = [build for build in WRONG_BUILDS if isinstance(build, tuple) and len(build) == 2]
        pairs += [((), ()), ((0,), ()), ((0, 1), ()), ((2, 1), (1,)), ((0, 1, 2, 3), ()), ((1, 2, 3), ())]
        self.assertGreater(len(pairs), 25)
        for build in pairs:
            heights = dict(found.heights)
            if all(isinstance(part, tuple) for part in build) and all(isinstance(item, int) for item in build[0] + build[1]):
                heights[start(build, 2)] = found.bound
            for told in (found.heights, heights):
                self.assertIs(Choice(build, found.bound, told, found.floors).shows(THREE, 1, 1, 2), False, build)

    def test_a_build_of_fewer_people_with_right_heights(self):
        found = choose(PAIR, 0, 0, 1)
        heights = {((0,), (), (), 1): 0, ((), (), (), 0): 0, ((0,), (), (), 0): 0}
        self.assertIs(Total(0, heights, {}).shows(PAIR, 0, 0, ((0,), (), (), 1)), True)
        self.assertIs(Choice(((0,), ()), 2, heights, found.floors).shows(PAIR, 0, 0, 1), False)
        self.assertIs(Choice(((0,), ()), 0, heights, {}).shows(PAIR, 0, 0, 1), False)

    def test_a_part_changed(self):
        for told in self.CASES:
            archive, room, delay, ticks = told
            search, places = search_for(archive, room, delay), starts(archive, room, ticks)
            small, found = self.small(told), choose(*told)
            for heights, floors in [(small.heights, small.floors), (found.heights, found.floors)]:
                for other in list(changed(heights))[:300]:
                    expected = search.right_heights(other, start(small.build, ticks), small.bound)
                    self.assertIs(Choice(small.build, small.bound, other, floors).shows(*told), expected)
                for other in list(changed(floors))[:300]:
                    expected = search.right_floors(other, places, small.bound)
                    self.assertIs(Choice(small.build, small.bound, heights, other).shows(*told), expected)

    def test_every_build_needs_a_floor(self):
        for told in [(PAIR, 1, 0, 2), (THREE, 1, 0, 1), (THREE, 0, 1, 2)]:
            found = choose(*told)
            self.assertGreater(found.bound, 0)
            for place in starts(*told[:2], told[3]):
                floors = {other: found.floors[other] for other in found.floors if other != place}
                self.assertIs(Choice(found.build, found.bound, found.heights, floors).shows(*told), False)
                low = {**found.floors, place: found.bound - 1}
                self.assertIs(Choice(found.build, found.bound, found.heights, low).shows(*told), False)

    def test_every_other_bound_is_wrong(self):
        for told in self.CASES:
            found = choose(*told)
            for bound in range(-2, 12):
                other = Choice(found.build, bound, found.heights, found.floors)
                self.assertIs(other.shows(*told), bound == found.bound)

    def test_a_boolean_is_no_bound(self):
        told = (Archive((1, 1)), 0, 0, 1)
        found = choose(*told)
        self.assertEqual(found.bound, 1)
        found.bound = True
        self.assertIs(found.shows(*told), False)

    def test_no_floor_is_needed_where_the_bound_is_0(self):
        for told in [(THREE, 1, 2, 0), (ONE, 0, 0, 3)]:
            found = choose(*told)
            self.assertEqual(found.bound, 0)
            place = start(found.build, told[3])
            for floors, expected in [({}, True), ({place: 0}, True), ({place: -3}, True), ({place: 1}, False)]:
                self.assertIs(Choice(found.build, 0, found.heights, floors).shows(*told), expected)

    def test_four_people_raise_nothing(self):
        found = choose(THREE, 1, 1, 1)
        self.assertIs(found.shows(FOUR, 1, 1, 1), False)
        self.assertIs(Choice(((0, 1, 2, 3), ()), 0, {}, {}).shows(FOUR, 1, 1, 1), False)

    def test_of_another_play(self):
        found = choose(THREE, 1, 0, 2)
        for told in [(THREE, 0, 0, 2), (THREE, 2, 0, 2), (THREE, 1, 1, 2), (THREE, 1, 0, 1), (THREE, 1, 0, 3), (PAIR, 1, 0, 2),
                     (Archive((2, 4, 3)), 1, 0, 2)]:
            self.assertIs(found.shows(*told), False)

    def test_the_current_attributes(self):
        told = (PAIR, 1, 0, 2)
        found = choose(*told)
        build, place = found.build, start(found.build, 2)
        found.build = (build[0], ())
        self.assertIs(found.shows(*told), False)
        found.build = build
        self.assertIs(found.shows(*told), True)
        found.bound += 1
        self.assertIs(found.shows(*told), False)
        found.bound -= 1
        found.heights[place] = 0
        self.assertIs(found.shows(*told), False)
        found.heights = choose(*told).heights
        self.assertIs(found.shows(*told), True)
        del found.floors[place]
        self.assertIs(found.shows(*told), False)
        found.floors[place] = 1
        self.assertIs(found.shows(*told), True)


class ChoiceTest(unittest.TestCase):
    BUILD = ((0, 1), (1,))
    PLACE = ((0, 1), (1,), (), 1)

    def test_attributes_and_copies(self):
        heights, floors = {self.PLACE: 1}, {self.PLACE: 0}
        told = Choice(self.BUILD, 1, heights, floors)
        heights.clear()
        floors[self.PLACE] = 5
        self.assertEqual((told.build, told.bound, told.heights, told.floors),
                         (self.BUILD, 1, {self.PLACE: 1}, {self.PLACE: 0}))
        told.floors.clear()
        self.assertEqual(floors, {self.PLACE: 5})
        same = {self.PLACE: 1}
        self.assertIsNot(Choice(self.BUILD, 1, same, same).heights, Choice(self.BUILD, 1, same, same).floors)

    def test_equality(self):
        other_place = ((1, 0), (), (), 0)
        told = Choice(self.BUILD, 1, {self.PLACE: 1, other_place: 0}, {self.PLACE: 1, other_place: 0})
        turned = {other_place: 0, self.PLACE: 1}
        self.assertTrue(told == Choice(self.BUILD, 1, turned, turned))
        self.assertFalse(told != Choice(self.BUILD, 1, turned, turned))
        others = [Choice(((0, 1), ()), 1, turned, turned), Choice(self.BUILD, 2, turned, turned),
                  Choice(self.BUILD, 1, {self.PLACE: 1}, turned), Choice(self.BUILD, 1, turned, {self.PLACE: 1}),
                  Total(1, turned, turned), Archive((1, 1))]
        for other in others:
            self.assertIs(told == other, False)
            self.assertIs(told != other, True)
        self.assertEqual(choose(THREE, 1, 1, 2), choose(THREE, 1, 1, 2))


class WrongTest(unittest.TestCase):
    def test_choose(self):
        wrong = [ARCHIVE, ROOM, DELAY, TICKS]
        for function in (choose, best_work):
            check_errors(self, function, (THREE, 1, 1, 1), wrong)
            check_too_large(self, function, (FOUR, 1, 1, 1), wrong)
            check_too_large(self, function, (FOUR, 0, 0, 0), wrong)

    def test_shows(self):
        for found in (choose(THREE, 1, 1, 1), Choice(((), ()), 0, {}, {})):
            check_errors(self, found.shows, (THREE, 1, 1, 1), [ARCHIVE, ROOM, DELAY, TICKS])

    def test_least_pairs(self):
        wrong = [ARCHIVE, DELAY, TICKS]
        check_errors(self, least_pairs, (PAIR, 1, 1), wrong)
        check_too_large(self, least_pairs, (FOUR, 1, 1), wrong)
        check_too_large(self, least_pairs, (FOUR, 0, 0), wrong)


if __name__ == "__main__":
    unittest.main()
