"""Each name of the interface that has landed is defined in its own file, with the arguments of the document."""

import ast
import importlib
import inspect
import unittest

from forgetwork.archives import Archive

FUNCTIONS = {
    "archives": {"builds": ["archive", "room"]},
    "forgetting": {"work": ["archive", "room", "build", "people"], "after": ["archive", "room", "build", "people"]},
    "play": {"wishes": ["archive", "room", "delay", "position"],
             "answers": ["archive", "room", "delay", "position", "wish"]},
    "total": {"begin": ["archive", "room", "delay", "build", "ticks"], "total": ["archive", "room", "delay", "position"],
              "least_work": ["archive", "room", "delay", "position"]},
    "choices": {"choose": ["archive", "room", "delay", "ticks"], "best_work": ["archive", "room", "delay", "ticks"],
                "least_pairs": ["archive", "delay", "ticks"]},
    "shards": {"splits": ["archive"], "split_work": ["archive", "room", "ticks", "split"],
               "divide": ["archive", "room", "ticks", "bound"], "fewest_shards": ["archive", "room", "ticks", "bound"]},
    "waits": {"waits": ["archive", "room", "ticks"], "delay_pairs": ["archive", "room", "ticks"]},
}

# For each class: its file, its arguments, and its methods with theirs.
CLASSES = {
    "Archive": ("archives", ["sizes"], {"__iter__": [], "__len__": [], "__eq__": ["other"]}),
    "Total": ("total", ["bound", "heights", "floors"],
              {"__eq__": ["other"], "shows": ["archive", "room", "delay", "position"]}),
    "Choice": ("choices", ["build", "bound", "heights", "floors"],
               {"__eq__": ["other"], "shows": ["archive", "room", "delay", "ticks"]}),
    "Divide": ("shards", ["split", "builds", "heights", "doubts"],
               {"__iter__": [], "__eq__": ["other"], "shows": ["archive", "room", "ticks", "bound"]}),
    "Waits": ("waits", ["rows"], {"__iter__": [], "__eq__": ["other"], "shows": ["archive", "room", "ticks"]}),
}


class InterfaceTest(unittest.TestCase):
    def test_functions(self):
        for name, functions in FUNCTIONS.items():
            module = importlib.import_module("forgetwork." + name)
            for word, arguments in functions.items():
                with self.subTest(module=name, function=word):
                    found = getattr(module, word)
                    self.assertEqual(found.__module__, module.__name__)
                    self.assertEqual(list(inspect.signature(found).parameters), arguments)

    def test_classes(self):
        for name, (stem, arguments, methods) in CLASSES.items():
            module = importlib.import_module("forgetwork." + stem)
            found = getattr(module, name)
            self.assertEqual(found.__module__, module.__name__)
            for word, others in {"__init__": arguments, **methods}.items():
                with self.subTest(name=name, method=word):
                    self.assertTrue(inspect.isfunction(found.__dict__[word]))
                    self.assertEqual(list(inspect.signature(found.__dict__[word]).parameters)[1:], others)
        self.assertIsInstance(Archive.__dict__["sizes"], property)

    def test_arguments_by_name(self):
        archive = Archive(sizes=(2, 1))
        play = importlib.import_module("forgetwork.play")
        found = play.answers(archive=archive, room=0, delay=0, position=((0,), (), (), 1), wish=0)
        self.assertEqual(found, [(0, ((), (), (), 0))])
        shards = importlib.import_module("forgetwork.shards")
        found = shards.divide(archive=archive, room=0, ticks=1, bound=0)
        same = shards.Divide(split=found.split, builds=found.builds, heights=found.heights, doubts=found.doubts)
        self.assertTrue(same.shows(archive=archive, room=0, ticks=1, bound=0))
        waits = importlib.import_module("forgetwork.waits")
        found = waits.waits(archive=archive, room=0, ticks=1)
        self.assertTrue(waits.Waits(rows=found.rows).shows(archive=archive, room=0, ticks=1))

    def test_files_of_the_errors(self):
        module = importlib.import_module("forgetwork.errors")
        tree = ast.parse(inspect.getsource(module))
        names = [node.name for node in tree.body if isinstance(node, ast.ClassDef)]
        self.assertEqual(len(names), 17)
        self.assertTrue(all(getattr(module, name).__module__ == "forgetwork.errors" for name in names))


if __name__ == "__main__":
    unittest.main()
