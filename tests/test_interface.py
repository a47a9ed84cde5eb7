import ast
import inspect
import pathlib
import unittest

from allonetree import deeds, discs, errors
from allonetree.discs import Disc

FOLDER = pathlib.Path(inspect.getfile(errors)).parent


def parameters(call):
    return tuple(inspect.signature(call).parameters)


class Interface(unittest.TestCase):
    def test_functions_take_the_parameters_that_the_document_names(self):
        self.assertEqual(parameters(deeds.deed_text), ("deed",))
        self.assertEqual(parameters(deeds.read_deed), ("text",))
        self.assertEqual(parameters(Disc), ())

    def test_methods_take_the_parameters_that_the_document_names(self):
        told = {"do": ("act",), "make": ("kind", "text"), "shift": ("node", "place", "goal"), "drop": ("node",)}
        told.update({"note": ("line",), "rows": (), "nodes": (), "spot": ("node",), "copy": ()})
        for name in told:
            self.assertIn(name, vars(Disc))
            self.assertEqual(parameters(getattr(Disc(), name)), told[name], name)

    def test_what_is_told_of_an_object_stands_in_its_class(self):
        for name in ("next", "book", "__eq__"):
            self.assertIn(name, vars(Disc))

    def test_all_is_defined_in_the_file_of_its_module(self):
        for call in (discs.Disc, deeds.deed_text, deeds.read_deed):
            self.assertEqual(inspect.getmodule(call).__name__, call.__module__)
        self.assertEqual(discs.Disc.__module__, "allonetree.discs")
        self.assertEqual(deeds.deed_text.__module__, "allonetree.deeds")
        self.assertEqual(deeds.read_deed.__module__, "allonetree.deeds")

    def test_arguments_by_name(self):
        disc = Disc()
        self.assertIsNone(disc.do(act=("folder", "a")))
        self.assertEqual(disc.make(kind="file", text="x"), 2)
        self.assertIs(disc.shift(node=2, place=None, goal=(1, "b")), True)
        self.assertEqual(disc.spot(node=2), ((1, "b"), "file", "x", 0))
        self.assertIs(disc.drop(node=2), False)
        self.assertIsNone(disc.note(line="a line"))
        gone = ("gone", (1, 2), 3, (1, 0), ())
        self.assertEqual(deeds.read_deed(text=deeds.deed_text(deed=gone)), gone)


class Form(unittest.TestCase):
    """The sizes and signs that the package's files may have."""

    def texts(self):
        return [(path.name, path.read_bytes()) for path in sorted(FOLDER.iterdir()) if path.name != "__pycache__"]

    def test_files_are_small_and_plain(self):
        for name, data in self.texts():
            self.assertTrue(name.endswith(".py") and name == name.lower(), name)
            self.assertTrue(all(sign == 10 or 32 <= sign <= 126 for sign in data), name)
            lines = data.decode("ascii").split("\n")
            self.assertLessEqual(len(lines), 400, name)
            self.assertLessEqual(max(len(line) for line in lines), 120, name)

    def test_functions_are_small(self):
        for name, data in self.texts():
            for node in ast.walk(ast.parse(data)):
                if isinstance(node, ast.FunctionDef):
                    self.assertLessEqual(node.end_lineno - node.lineno + 1, 40, (name, node.name))

    def test_imports_are_of_the_package(self):
        for name, data in self.texts():
            for node in ast.walk(ast.parse(data)):
                self.assertNotIsInstance(node, ast.Import, name)
                if isinstance(node, ast.ImportFrom):
                    self.assertTrue(node.module.startswith("allonetree."), (name, node.module))
