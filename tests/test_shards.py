"""Point [7]: shards."""

import unittest
from itertools import permutations, product

from forgetwork.archives import Archive
from forgetwork.shards import Divide, divide, fewest_shards, split_work, splits
from tests.common import (ARCHIVE, BOUND, LINE, ROOM, SPLIT, TICKS, check_errors, check_new, check_too_large, subsets)
from tests.search import PlainShards, Search, changed

ONE, PAIR, THREE, FOUR = Archive((3,)), Archive((2, 1)), Archive((2, 1, 3)), Archive((1, 2, 3, 4))
ARCHIVES = [ONE, PAIR, Archive((1, 4)), THREE, Archive((1, 1, 1)), Archive((4, 3, 4))]
WHOLE, SINGLE = ((0, 1, 2),), ((0,), (1,), (2,))
PAIRS = [((0,), (1, 2)), ((0, 1), (2,)), ((0, 2), (1,))]


def search_for(archive, room):
    return Search(PlainShards(archive, room))


def whole_parts(room, split):
    """All tuples of builds of all people of each shard, within the room together."""
    each = [[(order, kept) for order in permutations(shard) for kept in subsets(range(1, len(shard)), 3)]
            for shard in split]
    return sorted(parts for parts in product(*each) if sum(len(kept) for _, kept in parts) <= room)


def beginnings(room, ticks, split):
    return [(parts, ticks) for parts in whole_parts(room, split)]


def plain_splits(people):
    """All splits by the number of the shard of each person."""
    found = set()
    for shards in product(people, repeat=len(people)):
        groups = {shard: tuple(person for person in people if shards[person] == shard) for shard in shards}
        found.add(tuple(sorted(groups.values())))
    return sorted(found, key=lambda split: (len(split), split))


def least_of(search, room, ticks, split):
    return min(search.least(start) for start in beginnings(room, ticks, split))


class SplitsTest(unittest.TestCase):
    def test_small_ones(self):
        self.assertEqual(splits(ONE), [((0,),)])
        self.assertEqual(splits(PAIR), [((0, 1),), ((0,), (1,))])
        self.assertEqual(splits(THREE), [WHOLE, *PAIRS, SINGLE])

    def test_four_people(self):
        self.assertEqual(splits(FOUR), [
            ((0, 1, 2, 3),),
            ((0,), (1, 2, 3)), ((0, 1), (2, 3)), ((0, 1, 2), (3,)), ((0, 1, 3), (2,)), ((0, 2), (1, 3)),
            ((0, 2, 3), (1,)), ((0, 3), (1, 2)),
            ((0,), (1,), (2, 3)), ((0,), (1, 2), (3,)), ((0,), (1, 3), (2,)), ((0, 1), (2,), (3,)),
            ((0, 2), (1,), (3,)), ((0, 3), (1,), (2,)), ((0,), (1,), (2,), (3,))])

    def test_against_all_numberings(self):
        for archive in (ONE, PAIR, THREE, FOUR):
            self.assertEqual(splits(archive), plain_splits(range(len(archive))))

    def test_kinds_of_values(self):
        for split in splits(FOUR):
            self.assertEqual({type(split)} | {type(shard) for shard in split}, {tuple})

    def test_new_each_time(self):
        check_new(self, lambda: splits(THREE))


class SplitWorkTest(unittest.TestCase):
    def test_all_small_ones(self):
        for archive in ARCHIVES:
            for room in range(4):
                search = search_for(archive, room)
                for ticks in range(5):
                    for split in splits(archive):
                        expected = least_of(search, room, ticks, split)
                        self.assertEqual(split_work(archive, room, ticks, split), expected, (archive.sizes, room, ticks, split))

    def test_known_ones(self):
        self.assertEqual([split_work(THREE, room, 1, WHOLE) for room in (0, 1, 2)], [5, 3, 3])
        self.assertEqual(split_work(THREE, 0, 3, PAIRS[2]), 3)
        self.assertEqual([split_work(THREE, 3, 4, SINGLE), split_work(THREE, 3, 0, WHOLE)], [0, 0])


class DivideTest(unittest.TestCase):
    def check(self, search, told, works):
        archive, room, ticks, bound = told
        expected = next(split for split in works if works[split] <= bound)
        found = divide(*told)
        self.assertIs(type(found), Divide)
        self.assertEqual(found.split, expected, told)
        self.assertEqual(fewest_shards(*told), len(expected), told)
        self.assertIn(found.builds, whole_parts(room, expected))
        self.assertTrue(search.right_heights(found.heights, (found.builds, ticks), bound), told)
        self.assertEqual(list(found.doubts), [split for split in works if len(split) < len(expected)], told)
        for split, floors in found.doubts.items():
            self.assertTrue(search.right_floors(floors, beginnings(room, ticks, split), bound + 1), told)
            self.assertTrue(all(len(parts) == len(split) for parts, _ in floors))
        self.assertEqual([list(pair) for pair in found], [[split, floors] for split, floors in found.doubts.items()])
        self.assertIs(found.shows(*told), True)

    def test_all_small_ones(self):
        for archive in ARCHIVES:
            for room in range(4):
                search = search_for(archive, room)
                for ticks in range(5):
                    works = {split: least_of(search, room, ticks, split) for split in plain_splits(range(len(archive)))}
                    for bound in sorted({0, 1, 2, 3, 20} | {max(0, work - by) for work in works.values() for by in (0, 1)}):
                        self.check(search, (archive, room, ticks, bound), works)

    def test_the_first_split_with_so_few_shards(self):
        self.assertEqual([divide(THREE, 0, 1, bound).split for bound in (0, 1, 2, 3, 4, 5, 20)],
                         [SINGLE, SINGLE, PAIRS[1], PAIRS[0], PAIRS[0], WHOLE, WHOLE])
        self.assertEqual([fewest_shards(THREE, 0, 2, bound) for bound in (0, 1, 2, 9)], [3, 3, 2, 1])

    def test_kinds_of_values(self):
        found = divide(THREE, 1, 2, 0)
        self.assertEqual([type(found.split), type(found.builds), type(found.heights), type(found.doubts)],
                         [tuple, tuple, dict, dict])
        self.assertTrue(all(type(floors) is dict for floors in found.doubts.values()))

    def test_iteration_each_time_anew(self):
        found = divide(THREE, 0, 1, 0)
        self.assertEqual([split for split, _ in found], [WHOLE, *PAIRS])
        self.assertEqual([(one, two) for one, _ in found for two, _ in found],
                         [(one, two) for one in [WHOLE, *PAIRS] for two in [WHOLE, *PAIRS]])
        self.assertEqual(list(found), list(found.doubts.items()))
        turned = Divide(SINGLE, found.builds, found.heights, {split: found.doubts[split] for split in [*PAIRS, WHOLE]})
        self.assertEqual([split for split, _ in turned], [*PAIRS, WHOLE])
        self.assertEqual(list(divide(THREE, 0, 1, 20)), [])


class ShowsTest(unittest.TestCase):
    CASES = [(ONE, 0, 3, 0), (PAIR, 0, 1, 1), (PAIR, 1, 2, 0), (PAIR, 1, 2, 20), (THREE, 0, 1, 2), (THREE, 1, 2, 1),
             (THREE, 2, 1, 3), (THREE, 0, 2, 0), (THREE, 3, 0, 0)]

    def other(self, found, **parts):
        return Divide(parts.get("split", found.split), parts.get("builds", found.builds),
                      parts.get("heights", found.heights), parts.get("doubts", found.doubts))

    def small(self, told, split):
        """A Divide with this split and as little evidence as one plan of each side needs, or None."""
        archive, room, ticks, bound = told
        search = search_for(archive, room)
        builds = next((parts for parts, _ in beginnings(room, ticks, split) if search.least((parts, ticks)) <= bound), None)
        fewer = [other for other in splits(archive) if len(other) < len(split)]
        if builds is None or any(least_of(search, room, ticks, other) <= bound for other in fewer):
            return None
        doubts = {other: search.claims(*beginnings(room, ticks, other)) for other in fewer}
        return Divide(split, builds, search.plan((builds, ticks)), doubts)

    def test_every_split_with_as_few_shards(self):
        for told in self.CASES:
            archive, room, ticks, bound = told
            search, shown = search_for(archive, room), []
            for split in splits(archive):
                small = self.small(told, split)
                if small:
                    self.assertIs(small.shows(*told), True)
                    doubts = {other: small.doubts[other] for other in reversed(list(small.doubts))}
                    heights = search.all_least(*beginnings(room, 4, split))
                    turned = {place: heights[place] for place in reversed(list(heights))}
                    self.assertIs(Divide(split, small.builds, turned, doubts).shows(*told), True)
                    shown.append(split)
            self.assertEqual(shown[0], divide(*told).split)
            self.assertEqual({len(split) for split in shown}, {len(shown[0])})

    def test_another_split_with_as_few_shards(self):
        told = (THREE, 0, 1, 3)
        for split in PAIRS:
            self.assertIs(self.small(told, split).shows(*told), True)
        found = divide(*told)
        self.assertIs(self.other(found, split=PAIRS[1]).shows(*told), False)
        self.assertIs(self.small((THREE, 0, 1, 2), PAIRS[0]), None)

    def test_a_split_with_more_shards(self):
        told = (THREE, 0, 1, 3)
        search = search_for(THREE, 0)
        builds = tuple(((person,), ()) for person in range(3))
        heights = search.plan((builds, 1))
        doubts = {split: search.claims(*beginnings(0, 1, split)) for split in [WHOLE, *PAIRS]}
        self.assertIs(Divide(SINGLE, builds, heights, doubts).shows(*told), False)
        self.assertIs(Divide(SINGLE, builds, heights, {WHOLE: doubts[WHOLE]}).shows(*told), False)
        self.assertIs(Divide(SINGLE, builds, heights, doubts).shows(THREE, 0, 1, 1), True)

    def test_every_beginning_of_the_split(self):
        for told in self.CASES:
            archive, room, ticks, bound = told
            search, found = search_for(archive, room), divide(*told)
            for builds in whole_parts(room, found.split):
                least = search.least((builds, ticks))
                heights = {**found.heights, **search.plan((builds, ticks))}
                self.assertIs(self.other(found, builds=builds, heights=heights).shows(*told), least <= bound)

    def test_wrong_builds(self):
        told = (THREE, 1, 1, 3)
        found = divide(*told)
        self.assertEqual(found.split, WHOLE)
        for builds in [(), (((0, 1), ()),), (((0, 1, 2), (1, 2)),), (((0, 1, 2), ()), ((), ())), (((0, 1, True), ()),),
                       (((0, 1), ()), ((2,), ()))]:
            whole = {**found.heights, (builds, 1): 0, (builds, 0): 0}
            for heights in (found.heights, whole):
                self.assertIs(self.other(found, builds=builds, heights=heights).shows(*told), False)

    def test_booleans_in_builds(self):
        told = (THREE, 1, 1, 3)
        found = divide(*told)
        swapped = {0: False, 1: True, 2: 2}
        builds = tuple((tuple(swapped[person] for person in order), kept) for order, kept in found.builds)
        self.assertEqual(builds, found.builds)
        self.assertIs(self.other(found, builds=builds).shows(*told), False)

    def test_the_heights_changed(self):
        for told in self.CASES:
            archive, room, ticks, bound = told
            search, found = search_for(archive, room), divide(*told)
            for start in (found, self.small(told, found.split)):
                for heights in list(changed(start.heights))[:400]:
                    expected = search.right_heights(heights, (start.builds, ticks), bound)
                    self.assertIs(self.other(start, heights=heights).shows(*told), expected)

    def test_the_doubts_changed(self):
        for told in self.CASES:
            archive, room, ticks, bound = told
            search, found = search_for(archive, room), divide(*told)
            for start in (found, self.small(told, found.split)):
                for split, floors in start:
                    for other in list(changed(floors))[:300]:
                        expected = search.right_floors(other, beginnings(room, ticks, split), bound + 1)
                        doubts = {**start.doubts, split: other}
                        self.assertIs(self.other(start, doubts=doubts).shows(*told), expected)

    def test_a_doubt_missing_or_too_much(self):
        for told in self.CASES:
            archive, room, ticks, bound = told
            search, found = search_for(archive, room), divide(*told)
            for split in splits(archive):
                if split in found.doubts:
                    doubts = {other: found.doubts[other] for other in found.doubts if other != split}
                else:
                    floors = search.all_least(*beginnings(room, ticks, split))
                    self.assertTrue(search.right_floors(floors, [], 0))
                    doubts = {**found.doubts, split: floors}
                    self.assertIs(self.other(found, doubts={**found.doubts, split: {}}).shows(*told), False)
                self.assertIs(self.other(found, doubts=doubts).shows(*told), False)
            self.assertIs(self.other(found, doubts={**found.doubts, ((0, 1, 2, 3),): {}}).shows(*told), False)

    def test_all_beginnings_need_a_floor_that_is_more_than_the_bound(self):
        for told in [(THREE, 0, 1, 2), (THREE, 1, 2, 1), (PAIR, 1, 2, 0)]:
            archive, room, ticks, bound = told
            found = divide(*told)
            for split in found.doubts:
                for start in beginnings(room, ticks, split):
                    floors = found.doubts[split]
                    without = {place: floors[place] for place in floors if place != start}
                    for other in (without, {**floors, start: bound}, {}):
                        self.assertIs(self.other(found, doubts={**found.doubts, split: other}).shows(*told), False)
                    self.assertIs(self.other(found, doubts={**found.doubts, split: {**floors, start: bound + 1}}).shows(*told),
                                  True)

    def test_states_of_another_split_make_it_wrong(self):
        told = (THREE, 1, 3, 1)
        found = self.small(told, PAIRS[1])
        self.assertIs(found.shows(*told), True)
        strange = [((((0, 1, 2), ()),), 0), ((((0, 2), ()), ((1,), ())), 0), ((((0, 1), ()), ((2,), ())), 5),
                   ((((0, 1), (1,)), ((2,), ()), ((), ())), 0), ((((0, 1), ()), ((2, 1), (1,))), 0),
                   ((((0, 1), (0,)), ((2,), ())), 0), ((((0, True), ()), ((2,), ())), 1), ((((0, 1), ()), ((2,), ())), True),
                   None, 7, (), (((0, 1), ()), ((2,), ()), 0), ((((0, 1), ()), ((2,), ())),), (None, 0), ("ab", 0), ((), 0)]
        for place in strange:
            heights = {other: found.heights[other] for other in found.heights if other != place}
            self.assertIs(self.other(found, heights={**heights, place: 0}).shows(*told), False, place)
        for place in [((((0, 1), ()), ((2,), ())), 0), ((((0, 1, 2), (1, 2)),), 0), ((((0, 1, 3), ()),), 0),
                      (((LINE, ()),), -1), (((LINE, ()),), 5), (((LINE, ()),), False), None, 7, ()]:
            doubts = {WHOLE: {**found.doubts[WHOLE], place: 0}}
            self.assertIs(self.other(found, doubts=doubts).shows(*told), False, place)
        fine = ((((1,), ()), ((), ())), 0)
        self.assertIs(self.other(found, heights={**found.heights, fine: 0}).shows(*told), True)

    def test_the_room_is_for_all_builds_of_a_state_together(self):
        split, whole = ((0, 1), (2, 3)), (0, 1, 2, 3)
        narrow, wide = search_for(FOUR, 1), search_for(FOUR, 2)
        bound, more = least_of(wide, 2, 2, split), least_of(narrow, 1, 2, split)
        self.assertLess(bound, more)
        doubts = {(whole,): narrow.claims(*beginnings(1, 2, (whole,)))}
        for search, room, told in [(narrow, 1, more), (wide, 2, bound)]:
            for builds in whole_parts(room, split):
                if search.least((builds, 2)) <= told:
                    found = Divide(split, builds, search.plan((builds, 2)), doubts)
                    expected = room == 1
                    self.assertIs(found.shows(FOUR, 1, 2, told), expected, (room, builds))

    def test_floors_leave_out_answers_beyond_the_room(self):
        told = (FOUR, 1, 2, 1)
        search = search_for(FOUR, 1)
        split = next(split for split in splits(FOUR) if least_of(search, 1, 2, split) <= 1)
        self.assertEqual(len(split), 3)
        builds = next(parts for parts, _ in beginnings(1, 2, split) if search.least((parts, 2)) <= 1)
        doubts = {other: search.claims(*beginnings(1, 2, other)) for other in splits(FOUR) if len(other) < 3}
        self.assertIs(Divide(split, builds, search.plan((builds, 2)), doubts).shows(*told), True)
        self.assertIs(Divide(split, builds, search.plan((builds, 2)), doubts).shows(FOUR, 2, 2, 1), False)

    def test_builds_of_fewer_people(self):
        found = self.small((THREE, 0, 1, 2), PAIRS[1])
        self.assertIs(found.shows(THREE, 0, 1, 2), True)
        search = search_for(THREE, 0)
        for builds in [(((0,), ()), ((2,), ())), (((0, 1), ()), ((), ())), (((), ()), ((), ()))]:
            other = self.other(found, builds=builds, heights=search.plan((builds, 1)))
            self.assertIs(other.shows(THREE, 0, 1, 2), False)

    def test_what_is_no_split(self):
        told = (THREE, 0, 0, 0)
        builds = ((LINE, ()),)
        heights = {(builds, 0): 0}
        self.assertIs(Divide(WHOLE, builds, heights, {}).shows(*told), True)
        for split in SPLIT[1]:
            self.assertIs(Divide(split, builds, heights, {}).shows(*told), False)
        told = (PAIR, 0, 1, 0)
        found = divide(*told)
        self.assertIs(self.other(found, doubts={((False, 1),): found.doubts[((0, 1),)]}).shows(*told), False)

    def test_every_other_bound(self):
        for told in self.CASES:
            found = divide(*told)
            for bound in range(21):
                same = (*told[:3], bound)
                if len(divide(*same).split) != len(found.split):
                    self.assertIs(found.shows(*same), False, same)

    def test_of_another_play(self):
        found = divide(THREE, 1, 2, 1)
        for told in [(PAIR, 1, 2, 1), (FOUR, 1, 2, 1), (THREE, 0, 2, 1), (THREE, 1, 3, 1)]:
            self.assertIs(found.shows(*told), False)

    def test_the_current_attributes(self):
        told = (THREE, 0, 1, 2)
        found, start = divide(*told), (divide(*told).builds, 1)
        found.split = PAIRS[0]
        self.assertIs(found.shows(*told), False)
        found.split = PAIRS[1]
        self.assertIs(found.shows(*told), True)
        found.builds = ((1, 0), ()), ((2,), ())
        self.assertIs(found.shows(*told), True)
        found.builds = ((0, 1), ()), ((2,), ())
        found.heights[start] = 1
        self.assertIs(found.shows(*told), False)
        found.heights = divide(*told).heights
        self.assertIs(found.shows(*told), True)
        found.doubts[WHOLE].clear()
        self.assertIs(found.shows(*told), False)
        found.doubts[WHOLE] = divide(*told).doubts[WHOLE]
        self.assertIs(found.shows(*told), True)
        found.doubts = {}
        self.assertIs(found.shows(*told), False)


class DivideObjectTest(unittest.TestCase):
    BUILDS = ((0, 1), ()), ((2,), ())
    STATE = (BUILDS, 1)
    OTHER = ((((0, 1, 2), ()),), 1)

    def test_attributes_and_copies(self):
        heights, floors = {self.STATE: 2}, {self.OTHER: 5}
        doubts = {WHOLE: floors}
        told = Divide(PAIRS[1], self.BUILDS, heights, doubts)
        heights.clear()
        floors[self.OTHER] = 0
        doubts[SINGLE] = {}
        self.assertEqual((told.split, told.builds, told.heights, told.doubts),
                         (PAIRS[1], self.BUILDS, {self.STATE: 2}, {WHOLE: {self.OTHER: 5}}))
        told.doubts[WHOLE].clear()
        told.doubts.clear()
        self.assertEqual(doubts, {WHOLE: {self.OTHER: 0}, SINGLE: {}})

    def test_equality(self):
        told = Divide(PAIRS[1], self.BUILDS, {self.STATE: 2, self.OTHER: 1}, {WHOLE: {self.OTHER: 5}, SINGLE: {}})
        same = Divide(PAIRS[1], self.BUILDS, {self.OTHER: 1, self.STATE: 2}, {SINGLE: {}, WHOLE: {self.OTHER: 5}})
        self.assertTrue(told == same)
        self.assertFalse(told != same)
        others = [Divide(PAIRS[0], same.builds, same.heights, same.doubts),
                  Divide(same.split, self.BUILDS[:1], same.heights, same.doubts),
                  Divide(same.split, same.builds, {self.STATE: 2}, same.doubts),
                  Divide(same.split, same.builds, same.heights, {WHOLE: {self.OTHER: 4}, SINGLE: {}}),
                  Divide(same.split, same.builds, same.heights, {WHOLE: {self.OTHER: 5}}), Archive((1, 1))]
        for other in others:
            self.assertIs(told == other, False)
            self.assertIs(told != other, True)
        self.assertEqual(divide(THREE, 1, 2, 1), divide(THREE, 1, 2, 1))


class WrongTest(unittest.TestCase):
    def test_splits(self):
        check_errors(self, splits, (THREE,), [ARCHIVE])

    def test_split_work(self):
        wrong = [ARCHIVE, ROOM, TICKS, SPLIT]
        check_errors(self, split_work, (THREE, 1, 1, PAIRS[0]), wrong)
        fours = (SPLIT[0], [None, (), ((0, 1, 2),), ((0, 1), (2, 3, 4)), ((0, 1, 3, 2),), ((0, 1), (3,), (2,)), SINGLE,
                            ((0, True, 2, 3),), ((0, 1), (1, 2, 3)), [LINE]])
        for split in [((0, 1, 2, 3),), ((0,), (1,), (2,), (3,)), ((0, 2), (1, 3))]:
            check_too_large(self, split_work, (FOUR, 1, 1, split), [ARCHIVE, ROOM, TICKS, fours])

    def test_divide(self):
        wrong = [ARCHIVE, ROOM, TICKS, BOUND]
        for function in (divide, fewest_shards):
            check_errors(self, function, (THREE, 1, 1, 1), wrong)
            check_too_large(self, function, (FOUR, 1, 1, 1), wrong)
            check_too_large(self, function, (FOUR, 0, 0, 20), wrong)

    def test_shows(self):
        for found in (divide(THREE, 1, 1, 1), Divide(SINGLE, (), {}, {})):
            check_errors(self, found.shows, (THREE, 1, 1, 1), [ARCHIVE, ROOM, TICKS, BOUND])

    def test_limits_that_are_just_allowed(self):
        for room in (0, 3):
            for ticks in (0, 4):
                self.assertEqual(divide(THREE, room, ticks, 20).split, WHOLE)
                self.assertEqual(fewest_shards(ONE, room, ticks, 0), 1)


if __name__ == "__main__":
    unittest.main()
