"""The examples of the document's interface, with their printed answers, and those of README.md."""

import doctest
import pathlib
import unittest

README = pathlib.Path(__file__).resolve().parent.parent / "README.md"

FORGETTING = """
>>> from forgetwork.archives import Archive, builds
>>> from forgetwork.forgetting import after, work
>>> archive, build = Archive((2, 1, 3)), ((0, 1, 2), (1,))
>>> works = [work(archive, 1, build, people) for people in [(0,), (1,), (2,), (1, 2), (0, 1, 2)]]
>>> [works, after(archive, 1, build, (1,)), after(archive, 0, ((1, 2), ()), (1,)), builds(Archive((1, 1)), 1)]
[[4, 3, 1, 0, 0], [((0, 2), ()), ((0, 2), (1,))], [((2,), ())], [((0, 1), ()), ((0, 1), (1,)), ((1, 0), ()), ((1, 0), (1,))]]
"""

PLAY = """
>>> from forgetwork.archives import Archive
>>> from forgetwork.play import answers, wishes
>>> archive, late = Archive((2, 1, 3)), ((1, 0), (), ((1, 0),), 1)
>>> facts = [wishes(archive, 1, 1, late), answers(archive, 1, 1, late, 0), answers(archive, 1, 1, late, None), wishes(archive, 0, 0, ((1,), (), (), 0))]
>>> [facts, answers(archive, 1, 1, ((1, 0), (1,), (), 2), 0)]
[[[0, None], [(0, ((), (), (), 0))], [(2, ((0,), (), (), 0))], []], [(0, ((1, 0), (1,), ((0, 0),), 1)), (0, ((1,), (), (), 1))]]
"""

TOTAL = """
>>> from forgetwork.archives import Archive
>>> from forgetwork.total import Total, begin, least_work, total
>>> pair, three = Archive((2, 1)), Archive((2, 1, 3))
>>> start, end = ((0, 1), (), (), 1), ((0,), (), (), 0)
>>> shown = [Total(2, {start: 2, end: 0, ((1,), (), (), 0): 0, ((0, 1), (), (), 0): 0}, {start: 2}).shows(pair, 0, 0, start), Total(2, {start: 2, end: 0}, {start: 2}).shows(pair, 0, 0, start), Total(1, {start: 1, end: 0}, {}).shows(pair, 0, 0, start)]
>>> works = [least_work(three, 1, delay, begin(three, 1, delay, ((0, 1, 2), (1,)), 3)) for delay in (0, 1, 2)]
>>> [shown, works, total(three, 1, 1, ((0, 1, 2), (2,), (), 2)).shows(three, 1, 1, ((0, 1, 2), (2,), (), 2))]
[[True, False, False], [6, 6, 4], True]
"""

CHOICES = """
>>> from forgetwork.archives import Archive
>>> from forgetwork.choices import best_work, choose, least_pairs
>>> pair, three = Archive((2, 1)), Archive((2, 1, 3))
>>> [choose(pair, 1, 0, 2).build, best_work(pair, 0, 0, 1), least_pairs(pair, 0, 2), choose(three, 1, 1, 2).shows(three, 1, 1, 2), least_pairs(three, 0, 1)]
[((0, 1), (1,)), 2, [(0, 2), (1, 1)], True, [(0, 5), (1, 3)]]
"""

SHARDS = """
>>> from forgetwork.archives import Archive
>>> from forgetwork.shards import divide, splits
>>> pair, three = Archive((2, 1)), Archive((2, 1, 3))
>>> found = divide(three, 0, 1, 2)
>>> [splits(pair), found.split, [split for split, floors in found], found.shows(three, 0, 1, 2)]
[[((0, 1),), ((0,), (1,))], ((0, 1), (2,)), [((0, 1, 2),)], True]
"""

FEWEST_SHARDS = """
>>> from forgetwork.archives import Archive
>>> from forgetwork.shards import fewest_shards, split_work
>>> pair, three = Archive((2, 1)), Archive((2, 1, 3))
>>> [[split_work(three, room, 1, ((0, 1, 2),)) for room in (0, 1, 2)], split_work(three, 0, 3, ((0, 2), (1,))), [fewest_shards(three, 0, 2, bound) for bound in (0, 1, 2, 9)]]
[[5, 3, 3], 3, [3, 3, 2, 1]]
"""


class ExamplesTest(unittest.TestCase):
    def check(self, text, lines=5):
        example = doctest.DocTestParser().get_doctest(text, {}, "example", None, 0)
        told = []
        result = doctest.DocTestRunner(verbose=False).run(example, out=told.append)
        self.assertEqual((result.failed, result.attempted), (0, lines), "".join(told))

    def test_forgetting(self):
        self.check(FORGETTING)

    def test_play(self):
        self.check(PLAY)

    def test_total(self):
        self.check(TOTAL, 7)

    def test_choices(self):
        self.check(CHOICES, 4)

    def test_shards(self):
        self.check(SHARDS, 5)
        self.check(FEWEST_SHARDS, 4)

    def test_readme(self):
        text = README.read_text()
        self.check(text, text.count(">>> "))


if __name__ == "__main__":
    unittest.main()
