"""Point [11]: sessions."""

import unittest

from forgetwork.archives import Archive
from forgetwork.errors import BadAnswer, BadLog, BadWish, ForgetError, NothingDone
from forgetwork.logs import after_log, asked, spent
from forgetwork.sessions import Session
from tests.common import (ARCHIVE, DELAY, LINE, OTHER_KINDS, POSITION, ROOM, WRONG_LOGS, WRONG_POSITIONS, WRONG_WISHES,
                          Same, check_errors, refused, refused_at)
from tests.machine import Dice, Machine, all_logs, long_log, plain_pairs
from tests.plain import plain_answers, plain_wishes

PAIR, THREE, FOUR = Archive((2, 1)), Archive((2, 1, 3)), Archive((1, 4, 2, 3))
START = (LINE, (1,), (), 2)
LATE = (LINE, (1,), ((1, 0),), 1)
END = ((0,), (), (), 0)
FIRST, SECOND = (1, LATE), (2, END)


class Stop(Exception):
    """An error that is none of the program's."""


def started(*pairs):
    session = Session(THREE, 1, 1, START)
    for wish, later in pairs:
        session.play(wish, later)
    return session


class SessionCase(unittest.TestCase):
    def same(self, session, pairs, start=START, works=None):
        """The session has exactly this journal."""
        self.assertEqual(session.journal, list(pairs))
        self.assertEqual(list(session), list(pairs))
        self.assertEqual(len(session), len(pairs))
        self.assertEqual(session.position, pairs[-1][1] if pairs else start)
        if works is not None:
            self.assertEqual(session.work(), sum(works))


class PlayTest(SessionCase):
    def test_a_new_session(self):
        for position in [START, LATE, END, ((), (), (), 4)]:
            session = Session(THREE, 1, 1, position)
            self.same(session, [], position, [])
            self.assertEqual(type(session.work()), int)

    def test_pair_by_pair(self):
        session = started()
        self.assertEqual(session.play(1, LATE), 0)
        self.same(session, [FIRST], works=[0])
        self.assertEqual(session.play(None, ((0, 2), (), (), 0)), 3)
        self.same(session, [FIRST, (None, ((0, 2), (), (), 0))], works=[0, 3])

    def test_kinds_of_values(self):
        session = started(FIRST)
        self.assertEqual([type(session.position), type(session.journal), type(session.journal[0])], [tuple, list, tuple])
        self.assertEqual([type(session.undo()), type(session.work()), type(session.tried([]))], [tuple, int, list])
        self.assertIs(type(session.branch()), Session)

    def test_all_pairs_of_two_people(self):
        for delay in range(3):
            told, start = (PAIR, 1, delay), ((0, 1), (1,), (), 2)
            for log, works in all_logs(told, start):
                session = Session(*told, start)
                self.assertEqual([session.play(wish, later) for wish, later in log], works)
                self.same(session, log, start, works)

    def test_whole_plays(self):
        dice = Dice(2)
        for archive, order in [(THREE, (2, 0, 1)), (FOUR, (3, 1, 0, 2))]:
            for room in range(4):
                for delay in range(3):
                    told, start = (archive, room, delay), (order, (1,) * min(1, room), (), 4)
                    log, works = long_log(told, start, dice)
                    session = Session(*told, start)
                    for at, (wish, later) in enumerate(log):
                        self.assertEqual(session.play(wish, later), works[at])
                        self.same(session, log[:at + 1], start, works[:at + 1])
                    self.assertEqual(spent(*told, start, session.journal), works)
                    self.assertEqual(after_log(*told, start, session.journal), session.position)
                    self.assertEqual(asked(*told, start, session.journal),
                                     tuple(sorted(wish for wish, _ in log if wish is not None)))
                    refused(self, BadWish, session.play, (None, session.position))
                    self.assertEqual([session.undo() for _ in log], log[::-1])
                    self.same(session, [], start, [])

    def test_a_wish_that_waits_at_the_beginning(self):
        session = Session(THREE, 1, 1, (LINE, (1,), ((1, 0),), 0))
        self.assertEqual(session.play(None, ((0, 2), (1,), (), 0)), 3)
        refused(self, BadWish, session.play, (None, ((0, 2), (1,), (), 0)))
        self.assertEqual(session.work(), 3)

    def test_a_changed_journal_list_changes_nothing(self):
        session = started(FIRST)
        journal = session.journal
        self.assertIsNot(journal, session.journal)
        journal.clear()
        journal.append("more")
        self.same(session, [FIRST], works=[0])
        session.journal.append(SECOND)
        self.same(session, [FIRST], works=[0])
        session.play(*SECOND)
        self.assertEqual(journal, ["more"])
        kept = session.journal
        session.undo()
        self.assertEqual(kept, [FIRST, SECOND])

    def test_iteration_each_time_anew(self):
        session = started(FIRST, SECOND)
        self.assertEqual([(one, two) for one in session for two in session],
                         [(FIRST, FIRST), (FIRST, SECOND), (SECOND, FIRST), (SECOND, SECOND)])
        self.assertEqual(list(started()), [])

    def test_properties_cannot_be_assigned(self):
        session = started(FIRST)
        for name in ("position", "journal"):
            with self.assertRaises(AttributeError):
                setattr(session, name, START)
        self.same(session, [FIRST])


class RefusedTest(SessionCase):
    def sessions(self):
        yield started(), []
        yield started(FIRST), [FIRST]
        yield started(FIRST, SECOND), [FIRST, SECOND]

    def test_wrong_wishes(self):
        for session, pairs in self.sessions():
            right = plain_wishes(session.position)
            for wish in WRONG_WISHES + [0, 1, 2, None]:
                if isinstance(wish, (Same, bool)) or wish not in right:
                    for later in [START, LATE, END, None, "0"]:
                        refused(self, BadWish, session.play, (wish, later))
                        self.same(session, pairs, works=[])

    def test_wrong_answers(self):
        for session, pairs in self.sessions():
            told, place = (THREE, 1, 1), session.position
            for wish in plain_wishes(place):
                right = [later for _, later in plain_answers(*told, place, wish)]
                others = [(LINE, (1,), ((1, False),), 1), (LINE, (True,), ((1, 0),), 1), ((0, True, 2), (1,), ((1, 0),), 1),
                          (LINE, (1,), ((1, 0),), True), ((False,), (), (), 0), ((0,), (), (), False), list(LATE)]
                laters = [later for (_, later), _ in plain_pairs(told, place)] + [START, LATE, END, place]
                for later in others + WRONG_POSITIONS + [later for later in laters if later not in right]:
                    refused(self, BadAnswer, session.play, (wish, later))
                    self.same(session, pairs, works=[])

    def test_a_wish_counts_before_an_answer(self):
        for wish in WRONG_WISHES:
            for later in WRONG_POSITIONS:
                refused(self, BadWish, started().play, (wish, later))

    def test_nothing_done(self):
        session = started()
        refused(self, NothingDone, session.undo, ())
        self.same(session, [])
        session.play(*FIRST)
        session.undo()
        refused(self, NothingDone, session.undo, ())
        self.same(session, [])

    def test_wrong_logs(self):
        for session, pairs in self.sessions():
            for log in WRONG_LOGS:
                refused(self, BadLog, session.tried, (log,))
                self.same(session, pairs, works=[])

    def test_where_a_log_is_wrong(self):
        session = started(FIRST)
        for log in OTHER_KINDS + [None, 0, "12", {}, iter([SECOND]), [SECOND] * 13, (None,) * 13]:
            if not isinstance(log, list) or len(log) > 12:
                refused_at(self, BadLog, None, session.tried, (log,))
        forgotten = (None, ((0, 2), (1,), (), 0))
        for index, log in [(0, [FIRST]), (0, [None]), (0, [(1, END)]), (0, [(2, ((0,), (), (), 1))]), (0, [SECOND[::-1]]),
                           (1, [SECOND, SECOND]), (1, [SECOND, (None, END)]), (1, [SECOND, None]), (0, [None] * 12),
                           (1, [forgotten] + [(0, ((2,), (), (), 0))] * 11), (0, [list(SECOND)])]:
            for kind in (list, tuple):
                refused_at(self, BadLog, index, session.tried, (kind(log),))
                self.same(session, [FIRST], works=[0])
        self.assertEqual(session.tried([forgotten]), [3])

    def test_wrong_arguments(self):
        check_errors(self, Session, (THREE, 1, 2, (LINE, (1,), ((1, 0),), 1)), [ARCHIVE, ROOM, DELAY, POSITION])

    def test_limits_of_room_and_delay(self):
        for told in [(THREE, 0, 1, START), (THREE, 1, 0, LATE), (PAIR, 1, 1, START), (THREE, 1, 1, (LINE, (1, 2), (), 2))]:
            refused(self, POSITION[0], Session, told)


class UndoTest(SessionCase):
    def test_pair_by_pair_down_to_none(self):
        session = started(FIRST, SECOND)
        self.assertEqual(session.undo(), SECOND)
        self.same(session, [FIRST], works=[0])
        self.assertEqual(session.undo(), FIRST)
        self.same(session, [], works=[])
        refused(self, NothingDone, session.undo, ())

    def test_another_way_after_undoing(self):
        session = started(FIRST, SECOND)
        session.undo()
        other = (None, ((0, 2), (1,), (), 0))
        self.assertEqual(session.play(*other), 3)
        self.same(session, [FIRST, other], works=[0, 3])
        session.undo()
        session.undo()
        self.assertEqual(session.play(0, ((1, 2), (), (), 1)), 4)
        self.same(session, [(0, ((1, 2), (), (), 1))], works=[4])


class BranchTest(SessionCase):
    def test_a_branch_is_independent(self):
        for pairs in ([], [FIRST], [FIRST, SECOND]):
            session = started(*pairs)
            other = session.branch()
            self.assertIsNot(other, session)
            self.same(other, pairs, works=[])
            if pairs:
                self.assertEqual(other.undo(), pairs[-1])
                self.same(session, pairs)
                self.same(other, pairs[:-1])
            if pairs == [FIRST]:
                session.play(*SECOND)
                self.same(other, [])
                other.play(0, ((1, 2), (), (), 1))
                self.same(session, [FIRST, SECOND])
                self.same(other, [(0, ((1, 2), (), (), 1))], works=[4])

    def test_a_branch_goes_on_with_the_same_archive_room_and_delay(self):
        session = Session(FOUR, 2, 2, ((3, 1, 0, 2), (1, 3), (), 4))
        session.play(1, ((3, 1, 0, 2), (1, 3), ((1, 1),), 3))
        other = session.branch()
        self.assertEqual(other.play(2, ((3, 1, 0, 2), (1, 3), ((1, 0), (2, 1)), 2)), 0)
        self.assertEqual(other.play(None, ((3, 0), (1,), (), 1)), 1)
        self.assertEqual(session.play(None, ((3, 2, 0), (1, 2), (), 2)), 3)
        self.assertEqual([other.work(), session.work()], [1, 3])

    def test_all_pairs_of_a_branch_of_a_trial_can_be_undone(self):
        session = started(FIRST)
        with session.trial():
            session.play(*SECOND)
            with session.trial():
                other = session.branch()
                refused(self, NothingDone, session.undo, ())
                self.assertEqual([other.undo(), other.undo()], [SECOND, FIRST])
                refused(self, NothingDone, other.undo, ())
                later = session.branch()
        self.same(session, [FIRST])
        self.same(later, [FIRST, SECOND])
        self.assertEqual([later.undo(), later.undo()], [SECOND, FIRST])
        self.same(session, [FIRST])

    def test_a_trial_of_a_branch(self):
        session = started(FIRST)
        other = session.branch()
        with other.trial() as inner:
            self.assertIs(inner, other)
            other.play(*SECOND)
            session.undo()
        self.same(session, [])
        self.same(other, [FIRST])


class TrialTest(SessionCase):
    def test_it_gives_the_session_itself(self):
        session = started(FIRST)
        with session.trial() as inner:
            self.assertIs(inner, session)
            self.same(session, [FIRST])
            inner.play(*SECOND)
            self.same(session, [FIRST, SECOND])
        self.same(session, [FIRST], works=[0])

    def test_only_its_own_pairs_can_be_undone(self):
        session = started(FIRST)
        with session.trial():
            refused(self, NothingDone, session.undo, ())
            session.play(*SECOND)
            self.assertEqual(session.undo(), SECOND)
            refused(self, NothingDone, session.undo, ())
            self.same(session, [FIRST])
            session.play(None, ((0, 2), (), (), 0))
            self.assertEqual(session.work(), 3)
        self.same(session, [FIRST], works=[0])
        self.assertEqual(session.undo(), FIRST)

    def test_trials_within_one_another(self):
        session = started()
        with session.trial():
            session.play(*FIRST)
            with session.trial():
                session.play(*SECOND)
                with session.trial():
                    refused(self, NothingDone, session.undo, ())
                self.assertEqual(session.undo(), SECOND)
                refused(self, NothingDone, session.undo, ())
            self.same(session, [FIRST])
            self.assertEqual(session.undo(), FIRST)
            refused(self, NothingDone, session.undo, ())
        self.same(session, [])
        session.play(*FIRST)
        with session.trial(), session.trial():
            session.play(*SECOND)
        self.same(session, [FIRST])

    def test_left_by_an_error(self):
        session = started(FIRST)
        for raised in (Stop("stop"), BadLog(3), NothingDone("own"), KeyboardInterrupt(), GeneratorExit(), SystemExit()):
            with self.assertRaises(type(raised)) as held:
                with session.trial():
                    session.play(*SECOND)
                    raise raised
            self.assertIs(held.exception, raised)
            self.same(session, [FIRST], works=[0])
        self.assertEqual(session.undo(), FIRST)

    def test_left_by_an_error_of_the_program(self):
        session = started(FIRST)
        with self.assertRaises(NothingDone):
            with session.trial():
                session.undo()
        for wish, later in [(1, LATE), (2, START)]:
            with self.assertRaises(ForgetError):
                with session.trial():
                    session.play(*SECOND)
                    session.undo()
                    session.play(wish, later)
            self.same(session, [FIRST])

    def test_an_error_that_leaves_only_the_inner_one(self):
        session = started()
        with session.trial():
            session.play(*FIRST)
            with self.assertRaises(Stop):
                with session.trial():
                    session.play(*SECOND)
                    raise Stop
            self.same(session, [FIRST])
            self.assertEqual(session.undo(), FIRST)
            session.play(0, ((1, 2), (1,), (), 1))
        self.same(session, [])

    def test_an_error_that_leaves_both(self):
        session = started(FIRST)
        with self.assertRaises(Stop):
            with session.trial():
                session.play(*SECOND)
                with session.trial():
                    raise Stop
        self.same(session, [FIRST])
        self.assertEqual(session.undo(), FIRST)

    def test_left_by_return(self):
        def leave(session):
            with session.trial() as inner:
                inner.play(*SECOND)
                return inner.journal

        session = started(FIRST)
        self.assertEqual(leave(session), [FIRST, SECOND])
        self.same(session, [FIRST], works=[0])
        self.assertEqual(session.undo(), FIRST)

    def test_left_by_break_and_continue(self):
        session, found = started(FIRST), []
        for at in range(3):
            with session.trial():
                session.play(*SECOND)
                found.append(len(session))
                if at == 0:
                    continue
                break
        self.assertEqual(found, [2, 2])
        self.same(session, [FIRST], works=[0])
        self.assertEqual(session.undo(), FIRST)

    def test_the_beginning_is_that_of_the_block(self):
        session = started()
        trial = session.trial()
        session.play(*FIRST)
        with trial:
            session.play(*SECOND)
        self.same(session, [FIRST])
        with trial:
            refused(self, NothingDone, session.undo, ())
            session.play(*SECOND)
            with trial as inner:
                self.assertIs(inner, session)
                refused(self, NothingDone, session.undo, ())
            self.same(session, [FIRST, SECOND])
            self.assertEqual(session.undo(), SECOND)
        self.same(session, [FIRST])
        self.assertEqual(session.undo(), FIRST)

    def test_a_trial_that_is_not_begun_changes_nothing(self):
        session = started(FIRST)
        session.trial()
        self.assertEqual(session.undo(), FIRST)
        self.same(session, [])

    def test_a_journal_of_a_trial_stays_as_it_was(self):
        session = started(FIRST)
        with session.trial():
            session.play(*SECOND)
            journal = session.journal
        self.assertEqual(journal, [FIRST, SECOND])


class TriedTest(SessionCase):
    def test_all_logs(self):
        for delay in range(3):
            told, start = (PAIR, 1, delay), ((0, 1), (1,), (), 2)
            for log, works in all_logs(told, start):
                for at in range(len(log) + 1):
                    session = Session(*told, start)
                    for wish, later in log[:at]:
                        session.play(wish, later)
                    for kind in (list, tuple):
                        self.assertEqual(session.tried(kind(log[at:])), works[at:])
                    self.same(session, log[:at], start, works[:at])

    def test_in_a_trial(self):
        session = started()
        with session.trial():
            session.play(*FIRST)
            self.assertEqual(session.tried([SECOND]), [0])
            self.same(session, [FIRST])
            self.assertEqual(session.undo(), FIRST)
            refused(self, NothingDone, session.undo, ())
            self.assertEqual(session.tried([FIRST, (None, ((0, 2), (), (), 0))]), [0, 3])
            refused(self, NothingDone, session.undo, ())
        self.same(session, [])

    def test_the_log_is_neither_modified_nor_kept(self):
        session, log = started(), [FIRST, SECOND]
        found = session.tried(log)
        self.assertEqual([found, log], [[0, 0], [FIRST, SECOND]])
        found.append(7)
        self.assertEqual(session.tried(log), [0, 0])
        log.clear()
        self.same(session, [])


class MachineTest(SessionCase):
    """Long runs of all that can be done with a session, beside a machine of its own."""

    def compare(self, session, machine):
        self.same(session, machine.pairs, machine.start, machine.works)

    def step(self, session, machine, dice, depth):
        what = dice.below(10)
        pairs = plain_pairs(machine.told, machine.position())
        if what < 4 and pairs:
            pair, cost = dice.pick(pairs)
            self.assertEqual(session.play(*pair), cost)
            machine.play(pair, cost)
        elif what < 6 and machine.can_undo():
            self.assertEqual(session.undo(), machine.undo())
        elif what < 6:
            refused(self, NothingDone, session.undo, ())
        elif what == 6 and depth < 3:
            self.in_trial(session, machine, dice, depth)
        elif what == 7 and depth < 3:
            other, twin = session.branch(), machine.branch()
            self.run_both(other, twin, dice, depth + 1)
        elif what == 8:
            log, works = long_log(machine.told, machine.position(), dice)
            many = dice.below(len(log) + 1)
            self.assertEqual(session.tried(log[:many]), works[:many])
        else:
            refused(self, BadWish, session.play, (4, machine.position()))
            refused_at(self, BadLog, 0, session.tried, ([(4, machine.position())],))

    def in_trial(self, session, machine, dice, depth):
        pairs, works, error = list(machine.pairs), list(machine.works), dice.below(2)
        machine.begun.append(len(pairs))
        try:
            with session.trial() as inner:
                self.assertIs(inner, session)
                self.run_both(session, machine, dice, depth + 1)
                if error:
                    raise Stop
        except Stop:
            self.assertTrue(error)
        machine.begun.pop()
        machine.pairs, machine.works = pairs, works

    def run_both(self, session, machine, dice, depth):
        for _ in range(12 - 3 * depth):
            self.step(session, machine, dice, depth)
            self.compare(session, machine)

    def test_long_runs(self):
        for seed in range(200):
            dice = Dice(seed)
            told = (dice.pick([PAIR, THREE]), dice.below(4), dice.below(3))
            kept = (1,) * min(1, told[1])
            start = (tuple(range(len(told[0]))), kept, ((1, told[2] - 1),) if told[2] and dice.below(2) else (), 1 + dice.below(4))
            self.run_both(Session(*told, start), Machine(told, start), dice, 0)


if __name__ == "__main__":
    unittest.main()
