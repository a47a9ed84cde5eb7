"""Benches: lines and their answers, undo and redo, trials, copies, equality."""

import operator
import random
import unittest

from allonetree.benches import Bench
from allonetree.errors import (
    BadAct,
    BadLife,
    BadNames,
    BadNumber,
    BadTask,
    BadWord,
    Fallen,
    NoBackup,
    NoBlock,
    NoMachine,
    NothingToRedo,
    NothingToUndo,
    Refused,
    Running,
    TreeError,
    UsedLife,
)
from allonetree.journals import journal
from allonetree.worlds import World
from tests.hands import some_act
from tests.values import any_values, raised
from tests.weaving import state


def begun(*lines, names=("a", "b")):
    bench = Bench(names)
    for line in ("start a 1", "start b 2")[: len(names)] + lines:
        bench.do(line)
    return bench


def told(bench):
    """All that a bench tells of itself; what can be undone and done again is seen at a copy."""
    other, lines = bench.copy(), []
    while True:
        try:
            other.redo()
        except NothingToRedo:
            break
        lines.append(journal(other))
    return (bench.names, bench.deeds, len(bench), journal(bench), lines, state(bench.world()))


# Each form of a line, and its answer at a bench where two keepers run, a disc is kept, and three letters were sent.
AHEAD = (
    "program a folder f",
    "program a file f/x some words",
    "program a file z",
    "save a",
    "start b 2",
    "ask b",
    "step b place",
    "step b look",
    "start a 1",
    "ask b",
    "fall a",
    "start a 3",
)
FORMS = (
    ("program a folder g", "done"),
    ("program a gone f", "done"),
    ("program a move f g", "done"),
    ("program a file z", "done"),
    ("program a file z text", "done"),
    ("program a file z two words", "done"),
    ("program a link l", "done"),
    ("program a link l to/x", "done"),
    ("fall a", "done"),
    ("save b", "done"),
    ("step a place", "none"),
    ("step b tell", "none"),
    ("ask a", "2"),
    ("deliver 0", "answered"),
    ("deliver 1", "answered"),
    ("round", "5"),
    ("rest", "2"),
)

# What has none of the forms.
NO_FORMS = (
    "",
    " ",
    "undo",
    "redo",
    "alike",
    "letters",
    "rows a",
    "running a",
    "deeds",
    "names a",
    "do",
    "program",
    "program ",
    "program a",
    "program a ",
    "program a folder",
    "program a folder ",
    "program a folder f g",
    "program a gone",
    "program a gone f ",
    "program a gone f g",
    "program a move f",
    "program a move f ",
    "program a move f g h",
    "program a move f g ",
    "program a move f  g",
    "program a move  f g",
    "program a file",
    "program a file ",
    "program a file z ",
    "program a file  z",
    "program a file  ",
    "program a link l ",
    "program a copy f g",
    "program a Folder g",
    "program folder g",
    "program  a folder g",
    "program  folder g",
    "Program a folder g",
    "start",
    "start a",
    "start a ",
    "start 7",
    "start a 7 8",
    "start a 07",
    "start a +7",
    "start a 7.0",
    "start a -07",
    "start a -0",
    "start a --7",
    "start a -",
    "start a 1_0",
    "start a \u0667",
    "start a seven",
    "start a 7a",
    "start  a 7",
    "fall",
    "fall ",
    "fall a b",
    "fall  a",
    "save",
    "save a b",
    "back",
    "back a 1",
    "step",
    "step a",
    "step a look on",
    "step a  look",
    "ask",
    "ask ",
    "ask a b",
    "asks a",
    "deliver",
    "deliver ",
    "deliver 00",
    "deliver 01",
    "deliver +0",
    "deliver -0",
    "deliver 0 1",
    "deliver a",
    "deliver 0.",
    "round 1",
    "rest a",
    "rounds",
    "Rest",
    "round\t",
)


class Lines(unittest.TestCase):
    def test_each_form_and_its_answer(self):
        for line, answer in FORMS:
            bench = Bench(("a", "b"))
            for ahead in AHEAD:
                bench.do(ahead)
            self.assertEqual(bench.do(line), answer, line)
            self.assertEqual(journal(bench).split("\n")[2:], list(AHEAD) + [line])
            # One thing otherwise.
            others = [" " + line, line + "\n", "\n" + line, line + "\nrest", line + " "]
            others += [line.replace(" ", "  ", 1)] if " " in line else []
            before = told(bench)
            for other in others:
                # A TEXT may have blanks at its end, all but the first one.
                if not other.endswith(("text ", "words ", "to/x ")):
                    self.assertIs(raised(BadTask, bench.do, other), other)
            self.assertEqual(told(bench), before)

    def test_other_answers(self):
        bench = Bench(("a",))
        self.assertEqual([bench.do(line) for line in ("start a 1", "ask a", "round", "rest")], ["done", "none", "0", "1"])
        bench = Bench(("a", "b", "c"))
        lines = ("start a 1", "ask a", "deliver 1", "ask a", "start c 3", "deliver 1", "deliver 3", "ask c")
        answers = ["done", "0 1", "lost", "2 3", "done", "answered", "answered", "4 5"]
        self.assertEqual([bench.do(line=line) for line in lines], answers)
        bench = begun("program a folder f", "step a place")
        self.assertEqual([bench.do("step a look") for _ in range(6)], ["on"] * 5 + ["whole"])
        self.assertEqual([bench.do("step a " + word) for word in ("place", "tell", "tell", "tell")], ["waits", "told", "done", "none"])
        lines = ("ask b", "deliver 0", "deliver 1", "step b hear", "step b hear", "step b place", "step b place")
        self.assertEqual([bench.do(line) for line in lines], ["0", "answered", "taken", "heard", "none", "make", "made"])

    def test_texts(self):
        for rest, text in (
            ("", ""),
            (" t", "t"),
            ("  ", " "),
            ("   ", "  "),
            ("  t", " t"),
            (" t ", "t "),
            (" a  b c ", "a  b c "),
            (" =x", "=x"),
            (" " + "x" * 400, "x" * 400),
        ):
            for word in ("file", "link"):
                bench = begun()
                self.assertEqual(bench.do(f"program a {word} f{rest}"), "done")
                self.assertEqual(bench.world().rows("a"), (("f", word, text),))

    def test_what_has_no_form(self):
        bench = begun("program a folder f")
        before = told(bench)
        self.assertEqual(len(set(NO_FORMS)), len(NO_FORMS))
        for line in NO_FORMS + tuple(any_values()):
            self.assertIs(raised(BadTask, bench.do, line), line)
        self.assertEqual(told(bench), before)

    def test_what_the_world_raises(self):
        bench = begun("program a folder f")
        before = told(bench)
        long = "x" * 401
        for line, error, value in (
            ("program c folder f", NoMachine, "c"),
            ("program A folder f", NoMachine, "A"),
            ("program c folder ?", NoMachine, "c"),
            ("program a folder ?", BadAct, ("folder", "?")),
            ("program a folder a//b", BadAct, ("folder", "a//b")),
            ("program a move f g?", BadAct, ("move", "f", "g?")),
            ("program a file z \t", BadAct, ("file", "z", "\t")),
            ("program a file z " + long, BadAct, ("file", "z", long)),
            ("program a link \u00e4", BadAct, ("link", "\u00e4", "")),
            ("program a folder F", Refused, "stands"),
            ("program a gone x", Refused, "none"),
            ("program a move f f/g", Refused, "within"),
            ("program a file f", Refused, "kind"),
            ("start c 3", NoMachine, "c"),
            ("start a 3", Running, "a"),
            ("start a -3", Running, "a"),
            ("fall c", NoMachine, "c"),
            ("save \t", NoMachine, "\t"),
            ("back a", Running, "a"),
            ("step a walk", BadWord, "walk"),
            ("step c look", NoMachine, "c"),
            ("ask c", NoMachine, "c"),
            ("deliver 0", BadNumber, 0),
            ("deliver 12", BadNumber, 12),
            ("deliver -1", BadNumber, -1),
        ):
            self.assertEqual(raised(error, bench.do, line), value)
            self.assertEqual(told(bench), before)
        bench.do("fall a")
        before = told(bench)
        for line, error, value in (
            ("start a 0", BadLife, 0),
            ("start a -1", BadLife, -1),
            ("start a 1000001", BadLife, 1000001),
            ("start a 1", UsedLife, 1),
            ("start a 2", UsedLife, 2),
            ("fall a", Fallen, "a"),
            ("step a look", Fallen, "a"),
            ("ask a", Fallen, "a"),
            ("back a", NoBackup, "a"),
        ):
            self.assertEqual(raised(error, bench.do, line), value)
            self.assertEqual(told(bench), before)

    def test_names(self):
        bench = Bench(names=("sea", "hill"))
        self.assertEqual((bench.names, bench.deeds, len(bench)), (("sea", "hill"), 0, 0))
        for value in any_values() + [(), ("a", "A"), ("a", "b", "c", "d", "e"), ["a"], "a"]:
            if value != ("folder",) and value != ("gone",):
                self.assertIs(raised(BadNames, Bench, value), value)

    def test_how_many(self):
        bench = begun()
        self.assertEqual((bench.deeds, len(bench)), (2, 0))
        bench.do("ask a")
        bench.do("deliver 0")
        self.assertEqual((bench.deeds, len(bench)), (4, 1))
        self.assertRaises(NoMachine, bench.do, "ask c")
        self.assertEqual((bench.deeds, len(bench)), (4, 1))


class Undoing(unittest.TestCase):
    LINES = (
        "start a 1",
        "program a folder f",
        "program a file f/x one two",
        "program a link l f/x",
        "program a move l f/l",
        "start b 2",
        "step a place",
        "step b place",
        "step a look",
        "ask b",
        "deliver 0",
        "round",
        "save a",
        "program b gone f/l",
        "step b look",
        "step b look",
        "fall a",
        "back a",
        "start a 3",
        "step a place",
        "ask a",
        "deliver 3",
        "rest",
        "fall b",
    )

    def test_there_and_back(self):
        bench, states = Bench(("a", "b")), []
        for line in self.LINES:
            states.append(state(bench.world()))
            bench.do(line)
        states.append(state(bench.world()))
        for _ in range(2):
            for many in reversed(range(len(self.LINES))):
                self.assertIsNone(bench.undo())
                self.assertEqual((bench.deeds, state(bench.world())), (many, states[many]))
                self.assertEqual(len(bench), len(states[many][1]))
            self.assertIs(raised(NothingToUndo, bench.undo), None)
            for many in range(len(self.LINES)):
                self.assertIsNone(bench.redo())
                self.assertEqual((bench.deeds, state(bench.world())), (many + 1, states[many + 1]))
            self.assertIs(raised(NothingToRedo, bench.redo), None)

    def test_a_life_that_is_taken_back_is_free(self):
        bench = begun()
        bench.undo()
        self.assertEqual(bench.do("start b 7"), "done")
        bench.undo()
        self.assertEqual(bench.do("start b 2"), "done")

    def test_another_deed_lets_nothing_be_done_again(self):
        bench = begun("program a folder f", "program a folder g")
        bench.undo()
        bench.undo()
        # What is refused is no deed.
        for line in ("program a gone f", "rest now", "deliver 0", "step a walk"):
            self.assertRaises(TreeError, bench.do, line)
        bench.redo()
        self.assertEqual(bench.world().rows("a"), (("f", "folder", ""),))
        self.assertEqual(bench.do("program a folder h"), "done")
        self.assertIs(raised(NothingToRedo, bench.redo), None)
        self.assertEqual([row[0] for row in bench.world().rows("a")], ["f", "h"])

    def test_nothing(self):
        bench = Bench(("a",))
        self.assertIs(raised(NothingToUndo, bench.undo), None)
        self.assertIs(raised(NothingToRedo, bench.redo), None)

    def test_drawn(self):
        """Beside a list of lines, and a world in which they are done anew."""
        met = {"undo": 0, "redo": 0, "refused": 0, "done": 0}
        for seed in range(25):
            chance = random.Random(seed)
            bench, lines, undone, life = Bench(("a", "b")), [], [], 0
            for _ in range(60):
                lot = chance.random()
                if lot < 0.2:
                    met["undo"] += bool(lines)
                    if lines:
                        bench.undo()
                        undone.append(lines.pop())
                    else:
                        self.assertIs(raised(NothingToUndo, bench.undo), None)
                elif lot < 0.35:
                    met["redo"] += bool(undone)
                    if undone:
                        bench.redo()
                        lines.append(undone.pop())
                    else:
                        self.assertIs(raised(NothingToRedo, bench.redo), None)
                else:
                    life += 1
                    line = some_line(chance, bench.world(), life)
                    try:
                        bench.do(line)
                        lines.append(line)
                        undone = []
                        met["done"] += 1
                    except TreeError:
                        met["refused"] += 1
                self.assertEqual(journal(bench), "\n".join(["names a b", "deeds"] + lines))
            anew = Bench(("a", "b"))
            for line in lines:
                anew.do(line)
            self.assertEqual(state(anew.world()), state(bench.world()))
            self.assertTrue(anew == bench)
        self.assertTrue(all(many > 30 for many in met.values()), met)


def some_line(chance, world, life):
    name = chance.choice(world.names)
    act = some_act(chance, world.disc_of(name))
    many = len(world.letters)
    return chance.choice(
        [" ".join(("program", name) + act)] * 3
        + ["start %s %d" % (name, life), "fall " + name, "save " + name, "back " + name, "ask " + name]
        + ["step %s %s" % (name, chance.choice(("look", "tell", "hear", "place")))] * 4
        + ["deliver %d" % chance.randint(0, many), "round", "rest"]
    )


class Worlds(unittest.TestCase):
    def test_it_stands_by_itself(self):
        bench = begun("program a folder f")
        before = told(bench)
        world = bench.world()
        self.assertIs(type(world), World)
        world.program("a", ("gone", "f"))
        world.ask("a")
        world.fall("b")
        world.disc_of("a").note("x")
        self.assertEqual(told(bench), before)
        other = bench.world()
        bench.do("program a folder g")
        self.assertEqual(other.rows("a"), (("f", "folder", ""),))

    def test_what_was_used_and_kept_is_there(self):
        world = begun("save a", "fall b").world()
        self.assertEqual(raised(UsedLife, world.start, "b", 2), 2)
        world.fall("a")
        self.assertIsNone(world.back("a"))


class Copies(unittest.TestCase):
    def test_alike_in_all_things(self):
        bench = begun("program a folder f", "program a folder g", "ask a")
        for _ in range(2):
            bench.undo()
        before = told(bench)
        other = bench.copy()
        self.assertIs(type(other), Bench)
        self.assertTrue(other == bench)
        self.assertEqual(told(other), before)
        other.redo()
        other.do("program b folder x")
        self.assertEqual(told(bench), before)
        bench.undo()
        self.assertEqual(journal(other).split("\n")[-1], "program b folder x")
        self.assertIs(raised(NothingToRedo, other.redo), None)
        bench.redo()
        self.assertEqual(told(bench), before)

    def test_equal(self):
        one, other = begun("program a folder f"), begun("program a folder f")
        self.assertIs(one == other, True)
        self.assertIs(one != other, False)
        # What can be done again tells nothing.
        other.do("rest")
        self.assertIs(one == other, False)
        other.undo()
        self.assertIs(one == other, True)
        self.assertIs(one == begun("program a folder g"), False)
        self.assertIs(Bench(("a",)) == Bench(("b",)), False)
        self.assertIs(Bench(("a", "b")) == Bench(("b", "a")), False)
        self.assertIs(Bench(("a",)) == Bench(("a",)), True)

    def test_beside_other_values(self):
        bench = begun()
        for value in any_values() + [journal(bench), ("a", "b"), bench.world()]:
            self.assertIs(bench == value, False)
            self.assertIs(value == bench, False)
            self.assertIs(bench != value, True)
            self.assertIs(value != bench, True)

    def test_no_other_operator(self):
        bench = begun()
        names = "lt le gt ge add sub mul floordiv mod pow and_ or_ xor lshift rshift truediv matmul contains getitem"
        for name in names.split():
            for value in (bench, begun(), 1, "a", None, ()):
                self.assertRaises(TypeError, getattr(operator, name), bench, value)
                if name not in ("contains", "getitem"):
                    self.assertRaises(TypeError, getattr(operator, name), value, bench)
        for name in ("neg", "pos", "invert", "abs", "index"):
            self.assertRaises(TypeError, getattr(operator, name), bench)
        self.assertRaises(TypeError, iter, bench)


class Fault(Exception):
    """No error of the package."""


class Trials(unittest.TestCase):
    def setUp(self):
        self.bench = begun("program a folder f", "program a folder g")
        self.bench.undo()
        self.before = told(self.bench)

    def deed(self, bench):
        bench.do("program b folder x")
        return "told"

    def test_what_is_not_kept(self):
        self.assertEqual(self.bench.tried(self.deed), "told")
        self.assertEqual(told(self.bench), self.before)
        self.assertIs(raised(NoBlock, self.bench.keep), None)

    def test_look_is_called_with_the_bench(self):
        self.assertIs(self.bench.tried(lambda bench: bench), self.bench)
        self.assertIs(self.bench.tried(look=lambda bench: bench, keep=True), self.bench)
        self.assertIs(self.bench.tried(lambda bench: None), None)

    def test_keep_is_true(self):
        self.assertEqual(self.bench.tried(self.deed, keep=True), "told")
        self.assertEqual(self.bench.world().rows("b"), (("x", "folder", ""),))
        self.assertIs(raised(NothingToRedo, self.bench.redo), None)
        self.bench.undo()
        self.bench.undo()
        self.assertEqual(self.bench.world().rows("a"), ())

    def test_other_values_of_keep(self):
        for value in any_values() + [1, "True", "yes", [True], (True,)]:
            if value is not True:
                self.assertEqual(self.bench.tried(self.deed, keep=value), "told")
                self.assertEqual(told(self.bench), self.before)

    def test_keep_is_not_passed_by_position(self):
        self.assertRaises(TypeError, self.bench.tried, self.deed, True)

    def test_kept_by_keep(self):
        def look(bench):
            bench.do("program b folder x")
            self.assertIsNone(bench.keep())
            bench.do("program b folder y")
            bench.keep()

        for keep in (False, True):
            bench = self.bench.copy()
            bench.tried(look, keep=keep)
            self.assertEqual([row[0] for row in bench.world().rows("b")], ["x", "y"])
            self.assertIs(raised(NoBlock, bench.keep), None)

    def test_errors(self):
        for error in (Fault("x"), NoMachine("x"), KeyboardInterrupt(), StopIteration()):
            for keep in (False, True):

                def look(bench):
                    self.deed(bench)
                    bench.keep()
                    bench.undo()
                    bench.undo()
                    raise error

                with self.assertRaises(error.__class__) as found:
                    self.bench.tried(look, keep=keep)
                self.assertIs(found.exception, error)
                self.assertEqual(told(self.bench), self.before)
                self.assertIs(raised(NoBlock, self.bench.keep), None)

    def test_what_is_no_function(self):
        self.assertRaises(TypeError, self.bench.tried, None, keep=True)
        self.assertEqual(told(self.bench), self.before)
        self.assertIs(raised(NoBlock, self.bench.keep), None)

    def test_undo_and_redo_go_on_to_what_was_ahead(self):
        def back(bench):
            for _ in range(3):
                bench.undo()
            self.assertIs(raised(NothingToUndo, bench.undo), None)
            return bench.deeds

        self.assertEqual(self.bench.tried(back), 0)
        self.assertEqual(told(self.bench), self.before)
        self.assertEqual(self.bench.tried(lambda bench: [bench.redo(), bench.deeds]), [None, 4])
        self.assertEqual(told(self.bench), self.before)
        self.assertEqual(self.bench.tried(back, keep=True), 0)
        for _ in range(4):
            self.bench.redo()
        self.assertEqual([row[0] for row in self.bench.world().rows("a")], ["f", "g"])

    def test_trials_within_trials(self):
        def outer(keeps):
            def look(bench):
                bench.do("program b folder x")
                bench.tried(self.inner, keep=keeps)
                return [row[0] for row in bench.world().rows("b")]

            return look

        for keeps, inside in ((False, ["x"]), (True, ["x", "y"])):
            bench = self.bench.copy()
            self.assertEqual(bench.tried(outer(keeps)), inside)
            self.assertEqual(told(bench), self.before)
            self.assertEqual(bench.tried(outer(keeps), keep=True), inside)
            self.assertEqual([row[0] for row in bench.world().rows("b")], inside)

    def inner(self, bench):
        bench.do("program b folder y")

    def test_keep_belongs_to_the_innermost(self):
        def inner(bench):
            self.inner(bench)
            bench.keep()

        def outer(bench):
            bench.do("program b folder x")
            bench.tried(inner)
            return len(bench.world().rows("b"))

        self.assertEqual(self.bench.tried(outer), 2)
        self.assertEqual(told(self.bench), self.before)

        def other(bench):
            bench.do("program b folder x")
            bench.keep()
            bench.tried(self.inner)

        self.bench.tried(other)
        self.assertEqual(self.bench.world().rows("b"), (("x", "folder", ""),))

    def test_an_error_of_an_inner_trial(self):
        def inner(bench):
            self.inner(bench)
            bench.keep()
            raise Fault

        def outer(bench):
            bench.do("program b folder x")
            self.assertRaises(Fault, bench.tried, inner, keep=True)
            bench.keep()

        self.bench.tried(outer)
        self.assertEqual(self.bench.world().rows("b"), (("x", "folder", ""),))
        self.assertIs(raised(NoBlock, self.bench.keep), None)

    def test_copies_are_outside_of_all_trials(self):
        def look(bench):
            self.deed(bench)
            other = bench.copy()
            self.assertIs(raised(NoBlock, other.keep), None)
            return other

        other = self.bench.tried(look)
        self.assertEqual(told(self.bench), self.before)
        self.assertEqual(other.world().rows("b"), (("x", "folder", ""),))

    def test_trials_of_two_benches(self):
        other = self.bench.copy()

        def look(bench):
            return other.tried(lambda one: [bench.keep(), one.do("rest"), bench.do("rest")])

        self.bench.tried(look)
        self.assertEqual((self.bench.deeds, other.deeds), (4, 3))
