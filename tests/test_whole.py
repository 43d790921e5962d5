"""Point [1]: what the document promises over the whole program."""

import unittest

from forgetwork.archives import Archive, builds
from forgetwork.choices import Choice, best_work, choose, least_pairs
from forgetwork.errors import BadAnswer, BadWish, ForgetError, NothingDone
from forgetwork.forgetting import after, work
from forgetwork.keepers import KEEPERS, Worst, answer, most_work, worst
from forgetwork.logs import after_log, asked, spent
from forgetwork.play import answers, wishes
from forgetwork.sessions import Session
from forgetwork.shards import Divide, divide, fewest_shards, split_work, splits
from forgetwork.texts import archive_text, position_text, read_archive, read_position
from forgetwork.total import Total, begin, least_work, total
from forgetwork.waits import Waits, delay_pairs, waits
from tests.common import LINE, OTHER_KINDS

PAIR, THREE = Archive((2, 1)), Archive((2, 1, 3))
START = (LINE, (1,), (), 2)
LATE = (LINE, (1,), ((1, 0),), 1)
END = ((0,), (), (), 0)
BUILD = (LINE, (1,))


def session_with(pairs):
    session = Session(THREE, 1, 1, START)
    for wish, later in pairs:
        session.play(wish, later)
    return session


# Each call of the interface, with arguments that are right.
CALLS = {
    "Archive": lambda: Archive((2, 1)),
    "builds": lambda: builds(PAIR, 1),
    "work": lambda: work(THREE, 1, BUILD, (1,)),
    "after": lambda: after(THREE, 1, BUILD, (1,)),
    "wishes": lambda: wishes(THREE, 1, 1, START),
    "answers": lambda: answers(THREE, 1, 1, START, 0),
    "begin": lambda: begin(THREE, 1, 1, BUILD, 2),
    "total": lambda: total(THREE, 1, 1, START),
    "least_work": lambda: least_work(THREE, 1, 1, START),
    "choose": lambda: choose(PAIR, 1, 0, 2),
    "best_work": lambda: best_work(PAIR, 1, 0, 2),
    "least_pairs": lambda: least_pairs(PAIR, 0, 2),
    "splits": lambda: splits(THREE),
    "split_work": lambda: split_work(PAIR, 0, 2, ((0, 1),)),
    "divide": lambda: divide(THREE, 0, 1, 2),
    "fewest_shards": lambda: fewest_shards(THREE, 0, 1, 2),
    "waits": lambda: waits(PAIR, 0, 2),
    "delay_pairs": lambda: delay_pairs(PAIR, 0, 2),
    "answer": lambda: answer(THREE, 1, 1, START, 0, "lazy"),
    "worst": lambda: worst(THREE, 1, 1, START, "low"),
    "most_work": lambda: most_work(THREE, 1, 1, START, "low"),
    "spent": lambda: spent(THREE, 1, 1, START, [(1, LATE)]),
    "after_log": lambda: after_log(THREE, 1, 1, START, [(1, LATE)]),
    "asked": lambda: asked(THREE, 1, 1, START, [(1, LATE)]),
    "Session.journal": lambda: session_with([(1, LATE)]).journal,
    "Session.tried": lambda: session_with([(1, LATE)]).tried([(2, END)]),
    "Session.undo": lambda: session_with([(1, LATE)]).undo(),
    "archive_text": lambda: archive_text(THREE),
    "position_text": lambda: position_text(THREE, 1, 1, LATE),
    "read_archive": lambda: read_archive("sizes 2 1\n"),
    "read_position": lambda: read_position(THREE, 1, 1, "order 2\nkept -\nticks 0\n"),
}

OBJECTS = {
    "Archive": lambda: Archive((2, 1)),
    "Total": lambda: total(PAIR, 0, 0, ((0, 1), (), (), 1)),
    "Choice": lambda: choose(PAIR, 0, 0, 1),
    "Divide": lambda: divide(PAIR, 0, 1, 0),
    "Waits": lambda: waits(PAIR, 0, 1),
    "Worst": lambda: worst(PAIR, 0, 0, ((0, 1), (), (), 1), "none"),
}


def parts_of(value):
    """All lists and dicts in a value, and in the attributes of its objects."""
    if isinstance(value, (list, dict)):
        yield value
    if isinstance(value, dict):
        value = list(value.items())
    if isinstance(value, (list, tuple)):
        for item in value:
            yield from parts_of(item)
    elif hasattr(value, "__dict__") and not isinstance(value, type):
        yield from parts_of(vars(value))


def shown(value):
    """The value as a string, with the attributes of its objects."""
    if isinstance(value, dict):
        return "{" + ", ".join(shown(key) + ": " + shown(value[key]) for key in value) + "}"
    if isinstance(value, (list, tuple)):
        return type(value).__name__ + "(" + ", ".join(map(shown, value)) + ")"
    if type(value).__module__.startswith("forgetwork."):
        return type(value).__name__ + shown(vars(value))
    return repr(value)


class KindsTest(unittest.TestCase):
    def check(self, value):
        """Only integers, None, strings, tuples, lists and dicts, and no boolean among them."""
        if isinstance(value, dict):
            self.assertIs(type(value), dict)
            value = [part for pair in value.items() for part in pair]
        if isinstance(value, (list, tuple)):
            self.assertIn(type(value), (list, tuple))
            for item in value:
                self.check(item)
        elif type(value).__module__.startswith("forgetwork."):
            for item in vars(value).values():
                self.check(item)
        else:
            self.assertIn(type(value), (int, str, type(None)))

    def test_what_is_returned(self):
        for name, call in CALLS.items():
            with self.subTest(name=name):
                self.check(call())

    def test_a_group_of_a_fixed_size_is_a_tuple(self):
        for name, many in [("answers", 2), ("after", 2), ("builds", 2), ("least_pairs", 2), ("delay_pairs", 2),
                           ("Session.journal", 2)]:
            found = CALLS[name]()
            self.assertIs(type(found), list)
            self.assertEqual({(type(item), len(item)) for item in found}, {(tuple, many)})
        for name, many in [("answer", 2), ("Session.undo", 2), ("begin", 4), ("after_log", 4), ("read_position", 4)]:
            found = CALLS[name]()
            self.assertEqual((type(found), len(found)), (tuple, many))

    def test_other_sequences_are_lists(self):
        for name in ("wishes", "splits", "spent", "Session.tried", "Session.journal", "builds", "after", "answers"):
            self.assertIs(type(CALLS[name]()), list)
        self.assertIs(type(worst(THREE, 1, 1, START, "low").wishes), list)
        self.assertEqual([type(CALLS["asked"]()), type(KEEPERS)], [tuple, tuple])


class NewTest(unittest.TestCase):
    def test_every_returned_list_and_dict_is_new(self):
        for name, call in CALLS.items():
            with self.subTest(name=name):
                once, again = call(), call()
                kept = shown(again)
                mine, others = list(parts_of(once)), list(parts_of(again))
                self.assertEqual(len({id(part) for part in mine + others}), len(mine) + len(others))
                for part in mine:
                    part.clear()
                self.assertEqual(shown(again), kept)
                self.assertEqual(shown(call()), kept)

    def test_a_list_or_dict_within_one_answer_is_not_another(self):
        found = divide(THREE, 0, 2, 0)
        self.assertGreater(len(found.doubts), 1)
        tables = [found.heights, found.doubts, *found.doubts.values()]
        self.assertEqual(len({id(table) for table in tables}), len(tables))

    def test_what_is_read_off_a_session_is_new(self):
        session = session_with([(1, LATE)])
        self.assertIsNot(session.journal, session.journal)
        self.assertIsNot(session.branch(), session.branch())


class ArgumentsTest(unittest.TestCase):
    def check_copies(self, make, tables):
        """An object has copies of these lists and dicts, also of those within them."""
        before = shown(tables)
        told = make(*tables)
        whole = shown(told)
        self.assertEqual(shown(tables), before)
        mine = {id(part) for part in parts_of(told)}
        for part in parts_of(tables):
            self.assertFalse(part is not tables and id(part) in mine)
        for part in list(parts_of(tables)):
            part.clear()
        self.assertEqual(shown(told), whole)

    def test_lists_and_dicts_are_copied(self):
        place, state = ((0, 1), (), (), 1), ((((0, 1), ()),), 1)
        self.check_copies(lambda heights, floors: Total(2, heights, floors), [{place: 2}, {place: 2}])
        self.check_copies(lambda heights, floors: Choice(((0, 1), ()), 2, heights, floors), [{place: 2}, {place: 2}])
        self.check_copies(lambda heights, doubts: Divide(((0,), (1,)), (((0,), ()), ((1,), ())), heights, doubts),
                          [{state: 2}, {((0, 1),): {state: 2}}])
        self.check_copies(lambda asked_for, heights: Worst(2, asked_for, heights), [[1, None], {place: 2}])

    def test_the_dict_of_waits_is_copied(self):
        rows = {delay: choose(PAIR, 0, delay, 1) for delay in range(3)}
        told = Waits(rows)
        rows.clear()
        self.assertEqual(list(told.rows), [0, 1, 2])

    def test_shows_leaves_the_attributes_as_they_are(self):
        told = {"Total": (PAIR, 0, 0, ((0, 1), (), (), 1)), "Choice": (PAIR, 0, 0, 1), "Divide": (PAIR, 0, 1, 0),
                "Waits": (PAIR, 0, 1), "Worst": (PAIR, 0, 0, ((0, 1), (), (), 1), "none")}
        for name, values in told.items():
            found = OBJECTS[name]()
            before = shown(found)
            self.assertIs(found.shows(*values), True)
            self.assertEqual(shown(found), before)

    def test_logs_stay_as_they_are(self):
        log = [(1, LATE), (2, END)]
        for function in (spent, after_log, asked):
            function(THREE, 1, 1, START, log)
        Session(THREE, 1, 1, START).tried(log)
        self.assertEqual(log, [(1, LATE), (2, END)])


class EqualityTest(unittest.TestCase):
    def test_objects_of_different_classes_are_not_equal(self):
        many = {name: make() for name, make in OBJECTS.items()}
        many["Session"] = Session(PAIR, 0, 0, ((0, 1), (), (), 1))
        many["trial"] = many["Session"].trial()
        for error in (ForgetError, BadWish, BadAnswer, NothingDone):
            many[error.__name__] = error("told")
        for name, one in many.items():
            for other_name, other in many.items():
                self.assertIs(one == other, name == other_name, (name, other_name))
                self.assertIs(one != other, name != other_name, (name, other_name))

    def test_classes_with_the_same_attributes(self):
        table = {((0, 1), (), (), 1): 2}
        self.assertIs(Total(2, table, table) == Choice(((0, 1), ()), 2, table, table), False)
        self.assertIs(Total(2, table, table) != Worst(2, [], table), True)
        self.assertIs(Waits({}) == Worst(0, [], {}), False)

    def test_two_objects_of_one_class(self):
        for name, make in OBJECTS.items():
            one, other = make(), make()
            self.assertIsNot(one, other)
            self.assertIs(one == other, True, name)
            self.assertIs(one != other, False, name)

    def test_current_attributes_count(self):
        for name, make in OBJECTS.items():
            if name != "Archive":
                for word in vars(make()):
                    one, other = make(), make()
                    setattr(other, word, None)
                    self.assertIs(one == other, False, (name, word))
                    self.assertIs(one != other, True, (name, word))


class IterationTest(unittest.TestCase):
    def test_each_time_anew(self):
        session = session_with([(1, LATE), (2, END)])
        found = [Archive((2, 1, 3)), divide(THREE, 0, 2, 0), waits(PAIR, 0, 2), worst(THREE, 1, 1, START, "none"), session]
        for told in found:
            once = list(told)
            self.assertGreater(len(once), 1)
            self.assertEqual(list(told), once)
            self.assertEqual([(one, other) for one in told for other in told],
                             [(one, other) for one in once for other in once])


class RefusedTest(unittest.TestCase):
    def test_errors_are_value_errors_with_the_documented_base(self):
        for value in OTHER_KINDS:
            if not isinstance(value, Archive):
                with self.assertRaises(ValueError) as held:
                    Session(value, 1, 1, START)
                self.assertIsInstance(held.exception, ForgetError)

    def test_a_refused_call_changes_nothing(self):
        session = session_with([(1, LATE)])
        calls = [lambda: session.play(1, LATE), lambda: session.play(2, START), lambda: session.tried([(1, LATE)]),
                 lambda: session.tried(None), lambda: spent(THREE, 1, 1, session.position, [(2, END), None])]
        for call in calls:
            for _ in range(2):
                with self.assertRaises(ForgetError):
                    call()
                self.assertEqual((session.journal, session.position, session.work()), ([(1, LATE)], LATE, 0))
        self.assertEqual(session.play(2, END), 0)


class DictOrderTest(unittest.TestCase):
    def test_dicts_in_arguments_may_be_in_any_order(self):
        found = worst(THREE, 1, 1, START, "high")
        turned = {place: found.heights[place] for place in sorted(found.heights, reverse=True)}
        self.assertIs(Worst(found.total, found.wishes, turned).shows(THREE, 1, 1, START, "high"), True)
        self.assertEqual(Worst(found.total, found.wishes, turned), found)

    def test_described_orders(self):
        self.assertEqual(list(waits(THREE, 0, 2).rows), [0, 1, 2])
        doubts = divide(THREE, 0, 2, 0).doubts
        self.assertEqual(list(doubts), splits(THREE)[:len(doubts)])


if __name__ == "__main__":
    unittest.main()
