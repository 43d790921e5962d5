"""Each name of the interface that has landed is defined in its own file, with the arguments of the document."""

import ast
import importlib
import inspect
import unittest

from forgetwork.archives import Archive

FUNCTIONS = {
    "archives": {"builds": ["archive", "room"]},
    "forgetting": {"work": ["archive", "room", "build", "people"], "after": ["archive", "room", "build", "people"]},
    "play": {"wishes": ["archive", "room", "delay", "position"],
             "answers": ["archive", "room", "delay", "position", "wish"]},
}


class InterfaceTest(unittest.TestCase):
    def test_functions(self):
        for name, functions in FUNCTIONS.items():
            module = importlib.import_module("forgetwork." + name)
            for word, arguments in functions.items():
                with self.subTest(module=name, function=word):
                    found = getattr(module, word)
                    self.assertEqual(found.__module__, module.__name__)
                    self.assertEqual(list(inspect.signature(found).parameters), arguments)

    def test_archive(self):
        self.assertEqual(Archive.__module__, "forgetwork.archives")
        self.assertEqual(list(inspect.signature(Archive).parameters), ["sizes"])
        for method in ("__init__", "__iter__", "__len__", "__eq__"):
            self.assertTrue(inspect.isfunction(Archive.__dict__[method]))
        self.assertIsInstance(Archive.__dict__["sizes"], property)

    def test_arguments_by_name(self):
        archive = Archive(sizes=(2, 1))
        play = importlib.import_module("forgetwork.play")
        found = play.answers(archive=archive, room=0, delay=0, position=((0,), (), (), 1), wish=0)
        self.assertEqual(found, [(0, ((), (), (), 0))])

    def test_files_of_the_errors(self):
        module = importlib.import_module("forgetwork.errors")
        tree = ast.parse(inspect.getsource(module))
        names = [node.name for node in tree.body if isinstance(node, ast.ClassDef)]
        self.assertEqual(len(names), 17)
        self.assertTrue(all(getattr(module, name).__module__ == "forgetwork.errors" for name in names))


if __name__ == "__main__":
    unittest.main()
