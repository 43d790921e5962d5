"""Point [8]: waiting."""

import unittest

from forgetwork.archives import Archive
from forgetwork.choices import Choice, best_work, choose
from forgetwork.waits import Waits, delay_pairs, waits
from tests.common import ARCHIVE, ROOM, TICKS, check_errors, check_new, check_too_large
from tests.search import PlainPlay, Search
from tests.test_choices import ARCHIVES, ONE, PAIR, THREE, starts, whole_builds

FOUR = Archive((1, 2, 3, 4))


def best_works(archive, room, ticks):
    """The least bound for each delay, by a search of its own."""
    searches = [Search(PlainPlay(archive, room, delay)) for delay in range(3)]
    return [min(search.least(place) for place in starts(archive, room, ticks)) for search in searches]


class WaitsTest(unittest.TestCase):
    def test_rows(self):
        for archive in ARCHIVES:
            for room in range(3):
                for ticks in range(5):
                    found = waits(archive, room, ticks)
                    self.assertIs(type(found), Waits)
                    self.assertEqual(list(found.rows), [0, 1, 2])
                    for delay, choice in found.rows.items():
                        self.assertEqual(choice, choose(archive, room, delay, ticks))
                        self.assertEqual(choice.bound, best_work(archive, room, delay, ticks))
                    self.assertIs(found.shows(archive, room, ticks), True)

    def test_kinds_of_values(self):
        found = waits(PAIR, 1, 2)
        self.assertIs(type(found.rows), dict)
        self.assertEqual([(type(delay), type(choice)) for delay, choice in found.rows.items()], [(int, Choice)] * 3)

    def test_iteration_in_the_order_of_the_dict(self):
        found = waits(PAIR, 1, 2)
        self.assertEqual(list(found), list(found.rows.items()))
        self.assertEqual([(one, two) for one, _ in found for two, _ in found],
                         [(one, two) for one in range(3) for two in range(3)])
        turned = Waits({delay: found.rows[delay] for delay in (2, 0, 1)})
        self.assertEqual([delay for delay, _ in turned], [2, 0, 1])
        self.assertEqual(list(Waits({})), [])

    def test_the_dict_is_copied(self):
        rows = {delay: choose(PAIR, 1, delay, 2) for delay in range(3)}
        told = Waits(rows)
        del rows[0]
        self.assertEqual(list(told.rows), [0, 1, 2])
        told.rows.clear()
        self.assertEqual(list(rows), [1, 2])

    def test_equality(self):
        found = waits(PAIR, 1, 2)
        rows = {delay: found.rows[delay] for delay in (2, 0, 1)}
        self.assertTrue(found == Waits(rows))
        self.assertFalse(found != Waits(rows))
        changed = Choice(rows[1].build, rows[1].bound + 1, rows[1].heights, rows[1].floors)
        for other in [Waits({}), Waits({0: rows[0], 1: rows[1]}), Waits({**rows, 1: changed}), Waits({**rows, 3: rows[2]}),
                      rows[0], PAIR]:
            self.assertIs(found == other, False)
            self.assertIs(found != other, True)
        self.assertEqual(waits(THREE, 1, 1), waits(THREE, 1, 1))
        self.assertNotEqual(waits(THREE, 1, 1), waits(THREE, 1, 2))


class DelayPairsTest(unittest.TestCase):
    def test_all_small_ones(self):
        longest = 0
        for archive in ARCHIVES + [Archive((4, 4, 4)), Archive((1, 2, 4))]:
            for room in range(3):
                for ticks in range(5):
                    works = best_works(archive, room, ticks)
                    expected = [(delay, works[delay]) for delay in range(3) if works[delay] not in works[:delay]]
                    found = delay_pairs(archive, room, ticks)
                    self.assertEqual(found, expected, (archive.sizes, room, ticks))
                    self.assertTrue(all(type(pair) is tuple for pair in found))
                    longest = max(longest, len(found))
        self.assertGreater(longest, 1)

    def test_no_work(self):
        self.assertEqual(delay_pairs(ONE, 0, 4), [(0, 0)])
        self.assertEqual(delay_pairs(THREE, 3, 0), [(0, 0)])

    def test_new_each_time(self):
        check_new(self, lambda: delay_pairs(PAIR, 0, 2))


class ShowsTest(unittest.TestCase):
    TOLD = (THREE, 1, 2)

    def test_rows_in_another_order(self):
        rows = waits(*self.TOLD).rows
        for order in [(2, 1, 0), (1, 0, 2)]:
            self.assertIs(Waits({delay: rows[delay] for delay in order}).shows(*self.TOLD), True)

    def test_a_row_missing_or_too_much(self):
        rows = waits(*self.TOLD).rows
        for delay in range(3):
            self.assertIs(Waits({other: rows[other] for other in rows if other != delay}).shows(*self.TOLD), False)
        self.assertIs(Waits({}).shows(*self.TOLD), False)
        for more in (3, -1):
            self.assertIs(Waits({**rows, more: rows[2]}).shows(*self.TOLD), False)
            self.assertIs(Waits({0: rows[0], 1: rows[1], more: rows[2]}).shows(*self.TOLD), False)
        self.assertIs(Waits({0: rows[0], True: rows[1], 2: rows[2]}).shows(*self.TOLD), False)
        self.assertIs(Waits({False: rows[0], 1: rows[1], 2: rows[2]}).shows(*self.TOLD), False)

    def test_rows_of_another_delay(self):
        for told in [(THREE, 0, 2), (PAIR, 0, 3)]:
            rows = waits(*told).rows
            self.assertIs(Waits(rows).shows(*told), True)
            for delay in range(3):
                for other in range(3):
                    shown = Waits({**rows, delay: rows[other]}).shows(*told)
                    self.assertIs(shown, rows[other].shows(*told[:2], delay, told[2]))
            self.assertIs(Waits({0: rows[2], 1: rows[1], 2: rows[0]}).shows(*told), False)

    def test_a_choice_changed(self):
        for delay in range(3):
            found = waits(*self.TOLD)
            choice = found.rows[delay]
            place = (*choice.build, (), 2)
            choice.bound += 1
            self.assertIs(found.shows(*self.TOLD), False)
            choice.bound -= 1
            self.assertIs(found.shows(*self.TOLD), True)
            choice.heights[place] -= 1
            self.assertIs(found.shows(*self.TOLD), False)
            choice.heights[place] += 1
            del choice.floors[place]
            self.assertIs(found.shows(*self.TOLD), False)

    def test_another_build_with_the_least_bound(self):
        told = (Archive((1, 1, 1)), 1, 2)
        for delay in range(3):
            found = waits(*told)
            choice, search = found.rows[delay], Search(PlainPlay(*told[:2], delay))
            for build in whole_builds(*told[:2]):
                plan = search.plan((*build, (), 2))
                found.rows[delay] = Choice(build, choice.bound, plan, choice.floors)
                self.assertIs(found.shows(*told), search.least((*build, (), 2)) == choice.bound)

    def test_of_another_play(self):
        found = waits(*self.TOLD)
        for told in [(THREE, 0, 2), (THREE, 1, 1), (THREE, 1, 3), (PAIR, 1, 2), (FOUR, 1, 2)]:
            self.assertIs(found.shows(*told), False)

    def test_the_current_attribute(self):
        found = waits(*self.TOLD)
        rows = found.rows
        found.rows = {}
        self.assertIs(found.shows(*self.TOLD), False)
        found.rows = rows
        self.assertIs(found.shows(*self.TOLD), True)
        found.rows.pop(1)
        self.assertIs(found.shows(*self.TOLD), False)


class WrongTest(unittest.TestCase):
    def test_wrong_arguments(self):
        for function in (waits, delay_pairs):
            check_errors(self, function, (THREE, 1, 1), [ARCHIVE, ROOM, TICKS])
            check_too_large(self, function, (FOUR, 1, 1), [ARCHIVE, ROOM, TICKS])
            check_too_large(self, function, (FOUR, 0, 0), [ARCHIVE, ROOM, TICKS])

    def test_shows(self):
        for found in (waits(THREE, 1, 1), Waits({})):
            check_errors(self, found.shows, (THREE, 1, 1), [ARCHIVE, ROOM, TICKS])


if __name__ == "__main__":
    unittest.main()
