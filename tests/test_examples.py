"""The examples of the document's interface, with their printed answers, and those of README.md."""

import doctest
import pathlib
import unittest

README = pathlib.Path(__file__).resolve().parent.parent / "README.md"

FORGETTING = """
>>> from forgetwork.archives import Archive, builds
>>> from forgetwork.forgetting import after, work
>>> archive, build = Archive((2, 1, 3)), ((0, 1, 2), (1,))
>>> works = [work(archive, 1, build, people) for people in [(0,), (1,), (2,), (1, 2), (0, 1, 2)]]
>>> [works, after(archive, 1, build, (1,)), after(archive, 0, ((1, 2), ()), (1,)), builds(Archive((1, 1)), 1)]
[[4, 3, 1, 0, 0], [((0, 2), ()), ((0, 2), (1,))], [((2,), ())], [((0, 1), ()), ((0, 1), (1,)), ((1, 0), ()), ((1, 0), (1,))]]
"""

PLAY = """
>>> from forgetwork.archives import Archive
>>> from forgetwork.play import answers, wishes
>>> archive, late = Archive((2, 1, 3)), ((1, 0), (), ((1, 0),), 1)
>>> facts = [wishes(archive, 1, 1, late), answers(archive, 1, 1, late, 0), answers(archive, 1, 1, late, None), wishes(archive, 0, 0, ((1,), (), (), 0))]
>>> [facts, answers(archive, 1, 1, ((1, 0), (1,), (), 2), 0)]
[[[0, None], [(0, ((), (), (), 0))], [(2, ((0,), (), (), 0))], []], [(0, ((1, 0), (1,), ((0, 0),), 1)), (0, ((1,), (), (), 1))]]
"""

TOTAL = """
>>> from forgetwork.archives import Archive
>>> from forgetwork.total import Total, begin, least_work, total
>>> pair, three = Archive((2, 1)), Archive((2, 1, 3))
>>> start, end = ((0, 1), (), (), 1), ((0,), (), (), 0)
>>> shown = [Total(2, {start: 2, end: 0, ((1,), (), (), 0): 0, ((0, 1), (), (), 0): 0}, {start: 2}).shows(pair, 0, 0, start), Total(2, {start: 2, end: 0}, {start: 2}).shows(pair, 0, 0, start), Total(1, {start: 1, end: 0}, {}).shows(pair, 0, 0, start)]
>>> works = [least_work(three, 1, delay, begin(three, 1, delay, ((0, 1, 2), (1,)), 3)) for delay in (0, 1, 2)]
>>> [shown, works, total(three, 1, 1, ((0, 1, 2), (2,), (), 2)).shows(three, 1, 1, ((0, 1, 2), (2,), (), 2))]
[[True, False, False], [6, 6, 4], True]
"""

CHOICES = """
>>> from forgetwork.archives import Archive
>>> from forgetwork.choices import best_work, choose, least_pairs
>>> pair, three = Archive((2, 1)), Archive((2, 1, 3))
>>> [choose(pair, 1, 0, 2).build, best_work(pair, 0, 0, 1), least_pairs(pair, 0, 2), choose(three, 1, 1, 2).shows(three, 1, 1, 2), least_pairs(three, 0, 1)]
[((0, 1), (1,)), 2, [(0, 2), (1, 1)], True, [(0, 5), (1, 3)]]
"""

SHARDS = """
>>> from forgetwork.archives import Archive
>>> from forgetwork.shards import divide, splits
>>> pair, three = Archive((2, 1)), Archive((2, 1, 3))
>>> found = divide(three, 0, 1, 2)
>>> [splits(pair), found.split, [split for split, floors in found], found.shows(three, 0, 1, 2)]
[[((0, 1),), ((0,), (1,))], ((0, 1), (2,)), [((0, 1, 2),)], True]
"""

FEWEST_SHARDS = """
>>> from forgetwork.archives import Archive
>>> from forgetwork.shards import fewest_shards, split_work
>>> pair, three = Archive((2, 1)), Archive((2, 1, 3))
>>> [[split_work(three, room, 1, ((0, 1, 2),)) for room in (0, 1, 2)], split_work(three, 0, 3, ((0, 2), (1,))), [fewest_shards(three, 0, 2, bound) for bound in (0, 1, 2, 9)]]
[[5, 3, 3], 3, [3, 3, 2, 1]]
"""

KEEPERS = """
>>> from forgetwork.archives import Archive
>>> from forgetwork.keepers import Worst, answer, most_work, worst
>>> from forgetwork.total import begin
>>> three = Archive((2, 1, 3))
>>> start = begin(three, 1, 1, ((0, 1, 2), (1,)), 2)
>>> found = [answer(three, 1, 1, start, 0, keeper) for keeper in ('none', 'low', 'lazy')]
>>> small = begin(Archive((2, 1)), 0, 0, ((0, 1), ()), 1)
>>> heights = {small: 2, ((1,), (), (), 0): 0, ((0,), (), (), 0): 0, ((0, 1), (), (), 0): 0}
>>> shown = [Worst(2, [1], heights).shows(Archive((2, 1)), 0, 0, small, 'high'), Worst(2, [0], heights).shows(Archive((2, 1)), 0, 0, small, 'high')]
>>> [found, [most_work(three, 1, 1, start, keeper) for keeper in ('none', 'low', 'high', 'lazy')], worst(three, 1, 1, start, 'low').shows(three, 1, 1, start, 'low'), shown]
[[(4, ((1, 2), (), (), 1)), (4, ((1, 2), (1,), (), 1)), (0, ((0, 1, 2), (1,), ((0, 0),), 1))], [7, 7, 7, 4], True, [True, False]]
"""

SESSIONS = r"""
>>> from forgetwork.archives import Archive
>>> from forgetwork.logs import after_log, asked, spent
>>> from forgetwork.sessions import Session
>>> from forgetwork.texts import archive_text, position_text, read_archive, read_position
>>> three, start = Archive((2, 1, 3)), ((0, 1, 2), (1,), (), 2)
>>> session = Session(three, 1, 1, start)
>>> late = ((0, 1, 2), (1,), ((1, 0),), 1)
>>> found = [session.play(1, late), session.tried([(None, ((0, 2), (1,), (), 0))]), session.work(), session.position == late, session.undo() == (1, late), len(session)]
>>> log = [(1, late), (2, ((0,), (), (), 0))]
>>> facts = [spent(three, 1, 1, start, log), after_log(three, 1, 1, start, log), asked(three, 1, 1, start, log)]
>>> texts = [archive_text(three), position_text(three, 1, 1, late), read_position(three, 1, 1, 'order 2\nkept -\nticks 0\n')]
>>> [found, facts, texts, read_archive('sizes 2 1 3\n') == three, read_position(three, 1, 1, position_text(three, 1, 1, late)) == late]
[[0, [3], 0, True, True, 0], [[0, 0], ((0,), (), (), 0), (1, 2)], ['sizes 2 1 3\n', 'order 0 1 2\nkept 1\n1 waits 0\nticks 1\n', ((2,), (), (), 0)], True, True]
"""


class ExamplesTest(unittest.TestCase):
    def check(self, text, lines=5):
        example = doctest.DocTestParser().get_doctest(text, {}, "example", None, 0)
        told = []
        result = doctest.DocTestRunner(verbose=False).run(example, out=told.append)
        self.assertEqual((result.failed, result.attempted), (0, lines), "".join(told))

    def test_forgetting(self):
        self.check(FORGETTING)

    def test_play(self):
        self.check(PLAY)

    def test_total(self):
        self.check(TOTAL, 7)

    def test_choices(self):
        self.check(CHOICES, 4)

    def test_shards(self):
        self.check(SHARDS, 5)
        self.check(FEWEST_SHARDS, 4)

    def test_keepers(self):
        self.check(KEEPERS, 10)

    def test_sessions(self):
        self.check(SESSIONS, 12)

    def test_readme(self):
        text = README.read_text()
        self.check(text, text.count(">>> "))


if __name__ == "__main__":
    unittest.main()
