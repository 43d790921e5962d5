"""Each name of the interface that has landed is defined in its own file, with the arguments of the document."""

import ast
import importlib
import inspect
import unittest

from forgetwork.archives import Archive

FUNCTIONS = {
    "archives": {"builds": ["archive", "room"]},
    "forgetting": {"work": ["archive", "room", "build", "people"], "after": ["archive", "room", "build", "people"]},
    "play": {"wishes": ["archive", "room", "delay", "position"],
             "answers": ["archive", "room", "delay", "position", "wish"]},
    "total": {"begin": ["archive", "room", "delay", "build", "ticks"], "total": ["archive", "room", "delay", "position"],
              "least_work": ["archive", "room", "delay", "position"]},
    "choices": {"choose": ["archive", "room", "delay", "ticks"], "best_work": ["archive", "room", "delay", "ticks"],
                "least_pairs": ["archive", "delay", "ticks"]},
    "shards": {"splits": ["archive"], "split_work": ["archive", "room", "ticks", "split"],
               "divide": ["archive", "room", "ticks", "bound"], "fewest_shards": ["archive", "room", "ticks", "bound"]},
    "waits": {"waits": ["archive", "room", "ticks"], "delay_pairs": ["archive", "room", "ticks"]},
    "keepers": {"answer": ["archive", "room", "delay", "position", "wish", "keeper"],
                "worst": ["archive", "room", "delay", "position", "keeper"],
                "most_work": ["archive", "room", "delay", "position", "keeper"]},
    "logs": {name: ["archive", "room", "delay", "position", "log"] for name in ("spent", "after_log", "asked")},
    "texts": {"archive_text": ["archive"], "position_text": ["archive", "room", "delay", "position"],
              "read_archive": ["text"], "read_position": ["archive", "room", "delay", "text"]},
}

# For each class: its file, its arguments, and its methods with theirs.
CLASSES = {
    "Archive": ("archives", ["sizes"], {"__iter__": [], "__len__": [], "__eq__": ["other"]}),
    "Total": ("total", ["bound", "heights", "floors"],
              {"__eq__": ["other"], "shows": ["archive", "room", "delay", "position"]}),
    "Choice": ("choices", ["build", "bound", "heights", "floors"],
               {"__eq__": ["other"], "shows": ["archive", "room", "delay", "ticks"]}),
    "Divide": ("shards", ["split", "builds", "heights", "doubts"],
               {"__iter__": [], "__eq__": ["other"], "shows": ["archive", "room", "ticks", "bound"]}),
    "Waits": ("waits", ["rows"], {"__iter__": [], "__eq__": ["other"], "shows": ["archive", "room", "ticks"]}),
    "Worst": ("keepers", ["total", "wishes", "heights"],
              {"__iter__": [], "__eq__": ["other"], "shows": ["archive", "room", "delay", "position", "keeper"]}),
    "Session": ("sessions", ["archive", "room", "delay", "position"],
                {"__iter__": [], "__len__": [], "play": ["wish", "later"], "work": [], "undo": [], "branch": [],
                 "trial": [], "tried": ["log"]}),
}

PROPERTIES = {"Archive": ["sizes"], "Session": ["position", "journal"]}


class InterfaceTest(unittest.TestCase):
    def test_functions(self):
        for name, functions in FUNCTIONS.items():
            module = importlib.import_module("forgetwork." + name)
            for word, arguments in functions.items():
                with self.subTest(module=name, function=word):
                    found = getattr(module, word)
                    self.assertEqual(found.__module__, module.__name__)
                    self.assertEqual(list(inspect.signature(found).parameters), arguments)

    def test_classes(self):
        for name, (stem, arguments, methods) in CLASSES.items():
            module = importlib.import_module("forgetwork." + stem)
            found = getattr(module, name)
            self.assertEqual(found.__module__, module.__name__)
            for word, others in {"__init__": arguments, **methods}.items():
                with self.subTest(name=name, method=word):
                    self.assertTrue(inspect.isfunction(found.__dict__[word]))
                    self.assertEqual(list(inspect.signature(found.__dict__[word]).parameters)[1:], others)
                for word in PROPERTIES.get(name, []):
                    self.assertIsInstance(found.__dict__[word], property)

    def test_arguments_by_name(self):
        archive = Archive(sizes=(2, 1))
        play = importlib.import_module("forgetwork.play")
        found = play.answers(archive=archive, room=0, delay=0, position=((0,), (), (), 1), wish=0)
        self.assertEqual(found, [(0, ((), (), (), 0))])
        shards = importlib.import_module("forgetwork.shards")
        found = shards.divide(archive=archive, room=0, ticks=1, bound=0)
        same = shards.Divide(split=found.split, builds=found.builds, heights=found.heights, doubts=found.doubts)
        self.assertTrue(same.shows(archive=archive, room=0, ticks=1, bound=0))
        waits = importlib.import_module("forgetwork.waits")
        found = waits.waits(archive=archive, room=0, ticks=1)
        self.assertTrue(waits.Waits(rows=found.rows).shows(archive=archive, room=0, ticks=1))

    def test_arguments_of_keepers_and_sessions_by_name(self):
        told = {"archive": Archive((2, 1)), "room": 0, "delay": 0, "position": ((0, 1), (), (), 1)}
        keepers = importlib.import_module("forgetwork.keepers")
        self.assertEqual(keepers.answer(**told, wish=0, keeper="low"), (1, ((1,), (), (), 0)))
        found = keepers.worst(**told, keeper="low")
        same = keepers.Worst(total=found.total, wishes=found.wishes, heights=found.heights)
        self.assertTrue(same.shows(**told, keeper="low"))
        session = importlib.import_module("forgetwork.sessions").Session(**told)
        self.assertEqual(session.play(wish=0, later=((1,), (), (), 0)), 1)
        self.assertEqual(session.tried(log=[]), [])
        logs = importlib.import_module("forgetwork.logs")
        self.assertEqual(logs.spent(**told, log=session.journal), [1])
        texts = importlib.import_module("forgetwork.texts")
        self.assertEqual(texts.read_position(archive=told["archive"], room=0, delay=0, text=texts.position_text(**told)),
                         told["position"])

    def test_files_of_the_errors(self):
        module = importlib.import_module("forgetwork.errors")
        tree = ast.parse(inspect.getsource(module))
        names = [node.name for node in tree.body if isinstance(node, ast.ClassDef)]
        self.assertEqual(len(names), 17)
        self.assertTrue(all(getattr(module, name).__module__ == "forgetwork.errors" for name in names))


if __name__ == "__main__":
    unittest.main()
