"""Point [3]: forgetting."""

import unittest

from forgetwork.archives import Archive
from forgetwork.errors import BadBuild, BadPeople
from forgetwork.forgetting import after, work
from tests.common import ARCHIVE, BUILD, OTHER_KINDS, ROOM, check_errors, check_new, some_builds, subsets
from tests.plain import plain_after, plain_work

THREE = Archive((2, 1, 3))
FOUR = Archive((1, 2, 3, 4))
LINE = (0, 1, 2, 3)


class WorkTest(unittest.TestCase):
    def test_without_kept_lengths(self):
        works = [work(FOUR, 0, (LINE, ()), people) for people in [(0,), (3,), (1, 2), (0, 3), LINE]]
        self.assertEqual(works, [9, 6, 5, 5, 0])

    def test_with_kept_lengths(self):
        forgotten = [(0,), (1,), (2,), (3,), (0, 3), (1, 3), (2, 3), (1, 2, 3), LINE]
        self.assertEqual([work(FOUR, 3, (LINE, (2,)), people) for people in forgotten], [9, 8, 4, 3, 5, 4, 0, 1, 0])
        self.assertEqual([work(FOUR, 3, (LINE, (1, 3)), people) for people in forgotten], [9, 7, 6, 0, 5, 3, 2, 0, 0])
        self.assertEqual([work(FOUR, 3, (LINE, (1, 2, 3)), people) for people in forgotten], [9, 7, 4, 0, 5, 3, 0, 0, 0])

    def test_by_the_order_and_not_by_the_numbers(self):
        build = ((3, 0, 2), (1,))
        self.assertEqual([work(FOUR, 1, build, people) for people in [(3,), (0,), (2,), (0, 2), (2, 3)]], [4, 3, 1, 0, 1])

    def test_one_person(self):
        self.assertEqual(work(Archive((4,)), 0, ((0,), ()), (0,)), 0)


class AfterTest(unittest.TestCase):
    def test_first_person(self):
        self.assertEqual(after(THREE, 0, ((0, 1, 2), ()), (0,)), [((1, 2), ()), ((2, 1), ())])
        expected = [((1, 2), ()), ((1, 2), (1,)), ((2, 1), ()), ((2, 1), (1,))]
        self.assertEqual(after(THREE, 2, ((0, 1, 2), (1, 2)), (0,)), expected)

    def test_last_person(self):
        self.assertEqual(after(THREE, 1, ((0, 1, 2), (2,)), (2,)), [((0, 1), ())])
        self.assertEqual(after(THREE, 2, ((0, 1, 2), (1, 2)), (2,)), [((0, 1), ()), ((0, 1), (1,))])
        expected = [((0, 1), ()), ((0, 1), (1,)), ((1, 0), ()), ((1, 0), (1,))]
        self.assertEqual(after(THREE, 1, ((0, 1, 2), ()), (2,)), expected)

    def test_lengths_up_to_the_base_only_if_they_were_kept(self):
        expected = [((0, 1, 2), ()), ((0, 1, 2), (2,))]
        self.assertEqual(after(FOUR, 3, (LINE, (2, 3)), (3,)), expected)
        expected = [((0, 1, 3), ()), ((0, 1, 3), (2,))]
        self.assertEqual(after(FOUR, 3, (LINE, (2,)), (2,)), expected)

    def test_kept_length_that_reaches_the_whole_new_order_goes(self):
        self.assertEqual(after(FOUR, 3, (LINE, (1,)), (1, 2, 3)), [((0,), ())])
        self.assertEqual(after(FOUR, 3, (LINE, (1, 2)), (2, 3)), [((0, 1), ()), ((0, 1), (1,))])

    def test_full_room(self):
        build = ((0, 1, 2, 3), (1,))
        choices = [(), (1,), (2,)]
        expected = [(order, kept) for order in [(0, 1, 3), (0, 3, 1)] for kept in choices]
        self.assertEqual(after(FOUR, 1, build, (2,)), expected)
        choices = [(), (1,), (1, 2), (2,)]
        expected = [(order, kept) for order in [(0, 1, 3), (0, 3, 1)] for kept in choices]
        self.assertEqual(after(FOUR, 2, build, (2,)), expected)

    def test_all_people(self):
        for build in [(LINE, ()), (LINE, (1, 2, 3)), ((3, 1, 0, 2), (2,))]:
            self.assertEqual(after(FOUR, 3, build, LINE), [((), ())])
        self.assertEqual(after(Archive((4,)), 0, ((0,), ()), (0,)), [((), ())])

    def test_several_people(self):
        self.assertEqual(after(FOUR, 1, (LINE, ()), (0, 2)), [
            ((1, 3), ()), ((1, 3), (1,)), ((3, 1), ()), ((3, 1), (1,))])
        self.assertEqual(after(FOUR, 1, (LINE, (1,)), (1, 3)), [((0, 2), ()), ((0, 2), (1,))])

    def test_kinds_of_values(self):
        for build in after(FOUR, 3, (LINE, (1,)), (2,)):
            self.assertEqual([type(build), type(build[0]), type(build[1])], [tuple] * 3)

    def test_new_each_time(self):
        check_new(self, lambda: after(THREE, 1, ((0, 1, 2), (1,)), (1,)))


class EveryBuildTest(unittest.TestCase):
    def check(self, archive, room):
        for build in some_builds(len(archive), room):
            for people in subsets(build[0], len(build[0]))[1:]:
                told = (room, build, people)
                self.assertEqual(work(archive, *told), plain_work(archive, build, people), told)
                self.assertEqual(after(archive, *told), plain_after(*told), told)

    def test_up_to_three_people(self):
        for sizes in [(4,), (2, 1), (2, 1, 3)]:
            for room in range(4):
                self.check(Archive(sizes), room)

    def test_four_people(self):
        for room in (1, 3):
            self.check(FOUR, room)


class WrongTest(unittest.TestCase):
    PEOPLE = (BadPeople, OTHER_KINDS + [
        0, 1, (), (3,), (-1,), (0, 3), (1, 0), (0, 0), (2, 1), (0, 2, 1), (True,), (False,), (0, True), ("0",), (None,),
        ((0,),), ([0],), [0], [0, 1], {0: True}, (10 ** 30,), range(2)])

    def test_wrong_arguments(self):
        right = (THREE, 1, ((0, 1, 2), (1,)), (1,))
        for function in (work, after):
            check_errors(self, function, right, [ARCHIVE, ROOM, BUILD, self.PEOPLE])

    def test_kept_lengths_must_ascend(self):
        wrong = (BadBuild, [(LINE, (2, 1)), (LINE, (1, 1)), (LINE, (1, 3, 2)), (LINE, (1, 2, 4)), (LINE, (0, 1))])
        for function in (work, after):
            check_errors(self, function, (FOUR, 3, (LINE, (1, 2)), (1,)), [ARCHIVE, ROOM, wrong])

    def test_more_kept_lengths_than_the_room(self):
        for function in (work, after):
            for room, kept in [(0, (1,)), (1, (1, 2)), (2, (1, 2, 3))]:
                function(FOUR, room + 1, (LINE, kept), (1,))
                check_errors(self, function, (FOUR, room, (LINE, kept[1:]), (1,)), [
                    ARCHIVE, ROOM, (BadBuild, [(LINE, kept)])])

    def test_people_outside_the_build(self):
        wrong = (BadPeople, [(0,), (0, 1), (1, 3), (3,), (1, 2, 4), ()])
        for function in (work, after):
            check_errors(self, function, (FOUR, 0, ((2, 1), ()), (1, 2)), [ARCHIVE, ROOM, (BadBuild, []), wrong])

    def test_nobody_can_be_forgotten_in_the_empty_build(self):
        wrong = (BadPeople, [(), (0,), None])
        for function in (work, after):
            for people in wrong[1]:
                with self.assertRaises(BadPeople):
                    function(FOUR, 0, ((), ()), people)


if __name__ == "__main__":
    unittest.main()
