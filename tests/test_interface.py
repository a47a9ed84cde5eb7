import ast
import inspect
import pathlib
import unittest

from allonetree import (
    benches,
    books,
    deeds,
    desk,
    discs,
    errors,
    hearing,
    history,
    journals,
    keeping,
    lettering,
    living,
    looking,
    mapping,
    moving,
    pictures,
    placing,
    telling,
    worlds,
)
from allonetree.discs import Disc

FOLDER = pathlib.Path(inspect.getfile(errors)).parent


def parameters(call):
    return tuple(inspect.signature(call).parameters)


# Each function and class of the interface, but the errors, by the file that has it.
PARAMETERS = {
    discs: {"Disc": ()},
    deeds: {"deed_text": ("deed",), "read_deed": ("text",)},
    hearing: {
        "hears": ("heard", "deed"),
        "joined": ("one", "other"),
        "lacks": ("heard", "vector"),
        "stamp_of": ("heard",),
        "vector": ("heard",),
    },
    moving: {"chain": ("heard", "item"), "is_out": ("heard", "dot"), "Moves": (), "places": ("heard",)},
    living: {"clashes": ("heard",), "live": ("heard", "item"), "stands": ("heard",)},
    pictures: {"entries": ("heard",), "picture": ("heard",)},
    looking: {"Look": ("disc",)},
    telling: {"known_behind": ("known", "changes"), "told": ("heard", "life", "known", "standing")},
    placing: {
        "due": ("heard", "known", "disc", "tried"),
        "left": ("heard", "known", "disc"),
        "row_behind": ("heard", "known", "act", "node"),
        "shows": ("heard", "key"),
    },
    books: {"book_line": ("booked",), "mending": ("disc",), "read_book": ("disc",)},
    keeping: {"Keeper": ("disc", "life")},
    mapping: {
        "built": ("old", "value"),
        "cost": ("value",),
        "map_of": ("old", "new"),
        "map_text": ("value",),
        "read_map": ("text",),
        "shows_map_of": ("old", "new", "value"),
    },
    lettering: {"answers": ("heard", "letter", "most"), "ask_letter": ("heard",), "Gate": ("heard",)},
    worlds: {"World": ("names",)},
    history: {
        "past": ("heard", "stamp"),
        "path_of": ("heard", "item"),
        "restored": ("heard", "dot"),
        "versions": ("heard", "item"),
    },
    benches: {"Bench": ("names",)},
    journals: {"journal": ("bench",), "read_journal": ("text",)},
    desk: {"Desk": ("text",)},
}

METHODS = {
    discs.Disc: {
        "do": ("act",),
        "make": ("kind", "text"),
        "shift": ("node", "place", "goal"),
        "drop": ("node",),
        "note": ("line",),
        "rows": (),
        "nodes": (),
        "spot": ("node",),
        "copy": (),
    },
    moving.Moves: {"added": ("deed",)},
    looking.Look: {"step": ()},
    keeping.Keeper: {
        "look": (),
        "tell": (),
        "hear": (),
        "place": (),
        "ask": (),
        "answer": ("letter", "most"),
        "take": ("letter",),
        "rests": (),
    },
    lettering.Gate: {"take": ("letter",), "hear": ("deed",)},
    worlds.World: {
        "program": ("name", "act"),
        "start": ("name", "life"),
        "fall": ("name",),
        "step": ("name", "word"),
        "ask": ("name",),
        "deliver": ("number",),
        "save": ("name",),
        "back": ("name",),
        "disc_of": ("name",),
        "keeper_of": ("name",),
        "rows": ("name",),
        "alike": (),
        "copy": (),
        "round": (),
        "rest": (),
    },
    benches.Bench: {
        "world": (),
        "do": ("line",),
        "undo": (),
        "redo": (),
        "tried": ("look", "keep"),
        "keep": (),
        "copy": (),
    },
    desk.Desk: {"say": ("line",)},
}

TOLD = {
    discs.Disc: ("next", "book"),
    moving.Moves: ("places", "many"),
    looking.Look: ("standing", "read"),
    keeping.Keeper: ("disc", "life", "heard", "known", "standing", "doing", "stuck", "waiting"),
    lettering.Gate: ("heard", "waiting"),
    worlds.World: ("names", "letters"),
    benches.Bench: ("names", "deeds"),
    desk.Desk: ("bench",),
}

GIVEN = {
    looking.Look: (Disc(),),
    keeping.Keeper: (Disc(), 1),
    lettering.Gate: ((),),
    worlds.World: (("a",),),
    benches.Bench: (("a",),),
    desk.Desk: ("names a\ndeeds",),
}


def made(kind):
    given = GIVEN.get(kind, ())
    return kind(*[one.copy() if isinstance(one, Disc) else one for one in given])


class Interface(unittest.TestCase):
    def test_functions_take_the_parameters_that_the_document_names(self):
        for module, told in PARAMETERS.items():
            for name in told:
                self.assertEqual(parameters(getattr(module, name)), told[name], name)

    def test_all_is_defined_in_the_file_of_its_module(self):
        for module, told in PARAMETERS.items():
            for name in told:
                self.assertEqual(getattr(module, name).__module__, module.__name__)

    def test_methods_take_the_parameters_that_the_document_names(self):
        for kind, told in METHODS.items():
            for name in told:
                self.assertIn(name, vars(kind))
                self.assertEqual(parameters(getattr(made(kind), name)), told[name], name)
        for kind, names in ((Disc, ("__eq__",)), (benches.Bench, ("__eq__", "__len__"))):
            for name in names:
                self.assertIn(name, vars(kind))

    def test_what_is_told_of_an_object_is_there_when_it_is_created(self):
        for kind, names in TOLD.items():
            for name in names:
                self.assertTrue(hasattr(made(kind), name), name)

    def test_what_stands_behind_a_star(self):
        tried = inspect.signature(benches.Bench.tried).parameters["keep"]
        self.assertEqual((tried.kind, tried.default), (tried.KEYWORD_ONLY, False))

    def test_functions_stand_in_the_text_of_their_file(self):
        for module, told in PARAMETERS.items():
            tree = ast.parse(pathlib.Path(module.__file__).read_text("ascii"))
            defined = [node.name for node in tree.body if isinstance(node, (ast.FunctionDef, ast.ClassDef))]
            self.assertLessEqual(set(told), set(defined), module.__name__)

    def test_arguments_by_name(self):
        disc = Disc()
        self.assertIsNone(disc.do(act=("folder", "a")))
        self.assertEqual(disc.make(kind="file", text="x"), 2)
        self.assertIs(disc.shift(node=2, place=None, goal=(1, "b")), True)
        self.assertEqual(disc.spot(node=2), ((1, "b"), "file", "x", 0))
        self.assertIs(disc.drop(node=2), False)
        self.assertIsNone(disc.note(line="a line"))
        gone = ("gone", (1, 2), 3, (1, 0), ())
        self.assertEqual(deeds.read_deed(text=deeds.deed_text(deed=gone)), gone)

    def test_deeds_by_name(self):
        born = ("born", (1, 0), 1, "folder", None, "a", "")
        heard = hearing.hears(deed=born, heard=())
        self.assertEqual(heard, (born,))
        self.assertEqual(hearing.vector(heard=heard), ((1, 1),))
        self.assertEqual(hearing.lacks(vector=(), heard=heard), heard)
        self.assertEqual(hearing.joined(other=(), one=heard), heard)
        self.assertEqual(hearing.stamp_of(heard=heard), 2)
        self.assertEqual(moving.places(heard=heard), (((1, 0), None, "a"),))
        self.assertIs(moving.is_out(dot=(1, 0), heard=heard), False)
        self.assertEqual(moving.chain(item=(1, 0), heard=heard), ((1, 0),))
        self.assertEqual(moving.Moves().added(deed=born), 0)
        self.assertEqual(living.live(item=(1, 0), heard=heard), ((1, 0),))
        self.assertEqual(living.stands(heard=heard), ((1, 0),))
        self.assertEqual(living.clashes(heard=heard), ())
        self.assertEqual(pictures.entries(heard=heard), ((("item", (1, 0)), None, "a", "folder", ""),))
        self.assertEqual(pictures.picture(heard=heard), (("a", "folder", ""),))

    def test_keepers_work_by_name(self):
        born = ("born", (1, 0), 1, "folder", None, "a", "")
        key, disc = ("item", (1, 0)), Disc()
        self.assertEqual(looking.Look(disc=disc).step(), "on")
        told = telling.told(standing=((1, (0, "a"), "folder", ""),), known=(), life=1, heard=())
        row = (1, key, (0, "a"), None, ((1, 0),))
        self.assertEqual(told, ((born, ((1, row),)),))
        self.assertEqual(telling.known_behind(changes=told[0][1], known=()), (row,))
        self.assertEqual(placing.shows(key=key, heard=(born,)), (None, ((1, 0),)))
        self.assertEqual(placing.due(tried=(), disc=disc, known=(), heard=(born,)), ("make", key, "folder", ""))
        self.assertEqual(placing.left(disc=disc, known=(), heard=(born,)), (0, 2))
        made_row = placing.row_behind(node=1, act=("make", key, "folder", ""), known=(), heard=(born,))
        self.assertEqual(made_row, (1, key, None, None, ((1, 0),)))
        self.assertEqual(books.book_line(booked=("life", 1)), "life 1")
        self.assertEqual(books.read_book(disc=disc), ((), (), None))
        self.assertIsNone(books.mending(disc=disc))


    def test_the_rest_by_name(self):
        born, write = ("born", (1, 0), 1, "file", None, "a", ""), ("write", (1, 1), 2, (1, 0), "x", ())
        heard = (born, write)
        self.assertEqual(history.versions(item=(1, 0), heard=heard), (((1, 1), "x", "shown"),))
        self.assertEqual(history.path_of(item=(1, 0), heard=heard), "a")
        self.assertEqual(history.past(stamp=1, heard=heard), (born,))
        self.assertIsNone(history.restored(dot=(1, 1), heard=heard))
        self.assertEqual(lettering.ask_letter(heard=heard), "ask 1:2")
        letters = lettering.answers(most=20, letter="ask", heard=heard)
        self.assertEqual(lettering.Gate(heard=()).take(letter=letters[0]), heard)
        keeper = keeping.Keeper(life=2, disc=Disc())
        self.assertEqual(keeper.take(letter=letters[0]), 2)
        self.assertEqual(keeper.answer(most=1, letter="ask"), ())
        bench = benches.Bench(names=("a",))
        self.assertEqual(bench.do(line="rest"), "1")
        self.assertEqual(bench.tried(keep=True, look=len), 0)
        self.assertEqual(journals.journal(bench=bench), "names a\ndeeds\nrest")
        self.assertTrue(journals.read_journal(text="names a\ndeeds\nrest") == bench)
        self.assertEqual(desk.Desk(text="names a\ndeeds").say(line="rows a"), "none")


class Form(unittest.TestCase):
    """The sizes and signs that the package's files may have."""

    def texts(self):
        return [(path.name, path.read_bytes()) for path in sorted(FOLDER.iterdir()) if path.name != "__pycache__"]

    def test_files_are_small_and_plain(self):
        for name, data in self.texts():
            self.assertTrue(name.endswith(".py") and name == name.lower(), name)
            self.assertTrue(all(sign == 10 or 32 <= sign <= 126 for sign in data), name)
            lines = data.decode("ascii").split("\n")
            self.assertLessEqual(len(lines), 400, name)
            self.assertLessEqual(max(len(line) for line in lines), 120, name)

    def test_functions_are_small(self):
        for name, data in self.texts():
            for node in ast.walk(ast.parse(data)):
                if isinstance(node, ast.FunctionDef):
                    self.assertLessEqual(node.end_lineno - node.lineno + 1, 40, (name, node.name))

    def test_imports_are_of_the_package(self):
        for name, data in self.texts():
            for node in ast.walk(ast.parse(data)):
                self.assertNotIsInstance(node, ast.Import, name)
                if isinstance(node, ast.ImportFrom):
                    self.assertTrue(node.module.startswith("allonetree."), (name, node.module))
