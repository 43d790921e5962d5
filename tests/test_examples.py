"""The examples of the document's interface, with their printed answers, and those of README.md."""

import doctest
import pathlib
import unittest

README = pathlib.Path(__file__).resolve().parent.parent / "README.md"

FORGETTING = """
>>> from forgetwork.archives import Archive, builds
>>> from forgetwork.forgetting import after, work
>>> archive, build = Archive((2, 1, 3)), ((0, 1, 2), (1,))
>>> works = [work(archive, 1, build, people) for people in [(0,), (1,), (2,), (1, 2), (0, 1, 2)]]
>>> [works, after(archive, 1, build, (1,)), after(archive, 0, ((1, 2), ()), (1,)), builds(Archive((1, 1)), 1)]
[[4, 3, 1, 0, 0], [((0, 2), ()), ((0, 2), (1,))], [((2,), ())], [((0, 1), ()), ((0, 1), (1,)), ((1, 0), ()), ((1, 0), (1,))]]
"""

PLAY = """
>>> from forgetwork.archives import Archive
>>> from forgetwork.play import answers, wishes
>>> archive, late = Archive((2, 1, 3)), ((1, 0), (), ((1, 0),), 1)
>>> facts = [wishes(archive, 1, 1, late), answers(archive, 1, 1, late, 0), answers(archive, 1, 1, late, None), wishes(archive, 0, 0, ((1,), (), (), 0))]
>>> [facts, answers(archive, 1, 1, ((1, 0), (1,), (), 2), 0)]
[[[0, None], [(0, ((), (), (), 0))], [(2, ((0,), (), (), 0))], []], [(0, ((1, 0), (1,), ((0, 0),), 1)), (0, ((1,), (), (), 1))]]
"""


class ExamplesTest(unittest.TestCase):
    def check(self, text, lines=5):
        example = doctest.DocTestParser().get_doctest(text, {}, "example", None, 0)
        told = []
        result = doctest.DocTestRunner(verbose=False).run(example, out=told.append)
        self.assertEqual((result.failed, result.attempted), (0, lines), "".join(told))

    def test_forgetting(self):
        self.check(FORGETTING)

    def test_play(self):
        self.check(PLAY)

    def test_readme(self):
        text = README.read_text()
        self.check(text, text.count(">>> "))


if __name__ == "__main__":
    unittest.main()
