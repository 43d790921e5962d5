"""Point [2]: archives and builds."""

import unittest
from itertools import permutations
from math import comb, factorial

from forgetwork.archives import Archive, builds
from forgetwork.errors import BadArchive
from tests.common import ARCHIVE, OTHER_KINDS, ROOM, check_errors, check_new, refused, subsets

EDGES = [(1,), (4,), (1, 1), (4, 4), (2, 1, 3), (1, 1, 1, 1), (4, 4, 4, 4), (1, 2, 3, 4)]


class ArchiveTest(unittest.TestCase):
    def test_sizes(self):
        for sizes in EDGES:
            archive = Archive(sizes)
            self.assertEqual(archive.sizes, sizes)
            self.assertIs(type(archive.sizes), tuple)

    def test_length(self):
        self.assertEqual([len(Archive(sizes)) for sizes in EDGES], [1, 1, 2, 2, 3, 4, 4, 4])

    def test_iteration_each_time_anew(self):
        for sizes in EDGES:
            archive = Archive(sizes)
            self.assertEqual(list(archive), list(sizes))
            self.assertEqual(list(archive), list(sizes))
            self.assertEqual([(a, b) for a in archive for b in archive], [(a, b) for a in sizes for b in sizes])

    def test_equality(self):
        for sizes in EDGES:
            for others in EDGES:
                self.assertIs(Archive(sizes) == Archive(others), sizes == others)
                self.assertIs(Archive(sizes) != Archive(others), sizes != others)

    def test_not_equal_to_an_object_of_another_class(self):
        self.assertIs(Archive((1,)) == BadArchive("no archive"), False)
        self.assertIs(Archive((1,)) != BadArchive("no archive"), True)

    def test_never_changes(self):
        archive = Archive((2, 1, 3))
        with self.assertRaises(AttributeError):
            archive.sizes = (1,)
        builds(archive, 2).clear()
        self.assertEqual(archive.sizes, (2, 1, 3))

    def test_wrong_sizes(self):
        inner = [(value,) for value in OTHER_KINDS] + [(1, value, 1) for value in OTHER_KINDS]
        limits = [(), (0,), (5,), (-1,), (1, 0), (4, 5), (1, 1, 1, 5), (0, 1, 1, 1), (1, 1, 1, 1, 1), (1,) * 100]
        others = [0, 1, 2, [2, 1, 3], [1], range(1, 3), "12", iter((1, 2)), {1: 1}, ((1, 2),), (10 ** 30,), (-10 ** 30,)]
        for value in OTHER_KINDS + inner + limits + others:
            refused(self, BadArchive, Archive, (value,))


class BuildsTest(unittest.TestCase):
    def test_one_person(self):
        for room in range(4):
            self.assertEqual(builds(Archive((3,)), room), [((0,), ())])

    def test_two_people(self):
        bare = [((0, 1), ()), ((1, 0), ())]
        full = [((0, 1), ()), ((0, 1), (1,)), ((1, 0), ()), ((1, 0), (1,))]
        self.assertEqual([builds(Archive((1, 4)), room) for room in range(4)], [bare, full, full, full])

    def test_three_people(self):
        choices = [[()], [(), (1,), (2,)], [(), (1,), (1, 2), (2,)], [(), (1,), (1, 2), (2,)]]
        orders = [(0, 1, 2), (0, 2, 1), (1, 0, 2), (1, 2, 0), (2, 0, 1), (2, 1, 0)]
        for room in range(4):
            expected = [(order, kept) for order in orders for kept in choices[room]]
            self.assertEqual(builds(Archive((2, 1, 3)), room), expected)

    def test_four_people(self):
        found = builds(Archive((1, 2, 3, 4)), 3)
        kept = [(), (1,), (1, 2), (1, 2, 3), (1, 3), (2,), (2, 3), (3,)]
        self.assertEqual(found[:8], [((0, 1, 2, 3), lengths) for lengths in kept])
        self.assertEqual(found[8], ((0, 1, 3, 2), ()))
        self.assertEqual(found[-1], ((3, 2, 1, 0), (3,)))
        self.assertEqual([len(builds(Archive((1, 2, 3, 4)), room)) for room in range(4)], [24, 96, 168, 192])

    def test_count_order_and_content(self):
        for people in range(1, 5):
            for room in range(4):
                found = builds(Archive((2,) * people), room)
                count = factorial(people) * sum(comb(people - 1, size) for size in range(room + 1))
                expected = {(order, kept) for order in permutations(range(people))
                            for kept in subsets(range(1, people), min(room, people - 1))}
                self.assertEqual(len(found), count)
                self.assertEqual(found, sorted(expected))

    def test_kinds_of_values(self):
        for build in builds(Archive((1, 1, 1)), 2):
            self.assertEqual([type(build), type(build[0]), type(build[1])], [tuple] * 3)

    def test_new_each_time(self):
        check_new(self, lambda: builds(Archive((1, 1)), 1))

    def test_wrong_arguments(self):
        check_errors(self, builds, (Archive((2, 1, 3)), 1), [ARCHIVE, ROOM])


if __name__ == "__main__":
    unittest.main()
