"""Desks: each line that is said, and what is refused."""

import unittest

from allonetree.benches import Bench
from allonetree.desk import Desk
from allonetree.errors import BadJournal, BadTask, NoMachine, NothingToRedo, NothingToUndo, Refused, TreeError
from allonetree.journals import journal, read_journal
from tests.test_benches import AHEAD, FORMS, NO_FORMS, told
from tests.values import any_values, raised

OWN = ("undo", "redo", "rows a", "alike", "letters", "running a")


def desk_with(*lines, names="a b"):
    return Desk("\n".join(["names " + names, "deeds"] + list(lines)))


class Desks(unittest.TestCase):
    def test_its_bench(self):
        text = "names a b\ndeeds\nstart a 1\nprogram a folder f"
        desk = Desk(text=text)
        bench = desk.bench
        self.assertIs(type(bench), Bench)
        self.assertTrue(bench == read_journal(text))
        self.assertIs(desk.bench, bench)
        # The very one at which its lines are done.
        desk.say("fall a")
        self.assertEqual(journal(bench), text + "\nfall a")
        bench.undo()
        self.assertEqual(desk.say(line="running a"), "yes")

    def test_journals_that_cannot_be_read(self):
        for value in any_values():
            number = 1 if isinstance(value, str) else 0
            self.assertEqual(raised(BadJournal, Desk, value), number)
        for text, number in (("names a", 2), ("names a a\ndeeds", 1), ("names a\ndeeds\nrows a", 3), ("names a\ndeeds\n", 3)):
            self.assertEqual(raised(BadJournal, Desk, text), number)

    def test_deeds(self):
        for line, answer in FORMS:
            desk = desk_with(*AHEAD)
            self.assertEqual(desk.say(line), answer)
            self.assertEqual(desk.bench.deeds, len(AHEAD) + 1)

    def test_what_the_world_raises(self):
        desk = desk_with("program a folder f")
        before = told(desk.bench)
        self.assertEqual(raised(Refused, desk.say, "program a folder F"), "stands")
        for line in ("program c folder f", "rows c", "running c", "fall c", "step c look", "ask c"):
            self.assertEqual(raised(NoMachine, desk.say, line), "c")
        for line in ("rows A", "running A"):
            self.assertEqual(raised(NoMachine, desk.say, line), "A")
        self.assertEqual(told(desk.bench), before)

    def test_what_has_no_form(self):
        desk = desk_with("program a folder f", "start a 1")
        before = told(desk.bench)
        lines = [line for line in NO_FORMS if line not in OWN]
        self.assertEqual(len(NO_FORMS) - len(lines), 6)
        for own in OWN:
            lines += [own + " ", " " + own, own.upper(), own + " a", own + "\n", own[:-1], own.replace(" ", "  ")]
        for line in [line for line in lines if line not in OWN] + any_values():
            self.assertIs(raised(BadTask, desk.say, line), line)
        for line in ("rows", "rows ", "running", "running ", "rows a b", "running a b", "rows  a", "journal", "world"):
            self.assertIs(raised(BadTask, desk.say, line), line)
        self.assertEqual(told(desk.bench), before)

    def test_own_lines_are_no_deeds(self):
        desk = desk_with("program a folder f", "start a 1", "ask a")
        desk.say("undo")
        before = told(desk.bench)
        for line in ("rows a", "alike", "letters", "running a", "rows b"):
            self.assertEqual(desk.say(line), desk.say(line))
        self.assertEqual(told(desk.bench), before)
        self.assertEqual((desk.say("letters"), desk.say("redo"), desk.say("letters")), ("0", "done", "1"))


class Said(unittest.TestCase):
    def test_undo_and_redo(self):
        desk = desk_with("start a 1")
        self.assertIs(raised(NothingToRedo, desk.say, "redo"), None)
        self.assertEqual([desk.say("undo"), desk.say("redo"), desk.say("undo")], ["done"] * 3)
        self.assertIs(raised(NothingToUndo, desk.say, "undo"), None)
        self.assertEqual(desk.say("start b 5"), "done")
        self.assertIs(raised(NothingToRedo, desk.say, "redo"), None)

    def test_rows(self):
        desk = desk_with()
        self.assertEqual((desk.say("rows a"), desk.say("rows b")), ("none", "none"))
        for line in ("folder f", "file f/x", "file f/y  two  words ", "link l to ; there", "link m"):
            desk.say("program a " + line)
        rows = ["f folder", "f/x file", "f/y file  two  words ", "l link to ; there", "m link"]
        self.assertEqual(desk.say("rows a"), " ; ".join(rows))
        self.assertEqual(desk.say("rows b"), "none")
        # What lies in the ROOM is not in the folder.
        desk.bench.world().disc_of("a").make("file", "x")
        self.assertEqual(desk.say("rows a"), " ; ".join(rows))

    def test_one_row(self):
        self.assertEqual(desk_with("program a file f ;").say("rows a"), "f file ;")

    def test_alike(self):
        desk = desk_with("start a 1", "start b 2")
        self.assertEqual(desk.say("alike"), "yes")
        desk.say("program a file x t")
        self.assertEqual(desk.say("alike"), "no")
        self.assertEqual((desk.say("rest"), desk.say("alike")), ("2", "yes"))
        self.assertEqual(desk_with(names="a").say("alike"), "yes")

    def test_letters(self):
        desk = desk_with("start a 1", "start b 2", names="a b c")
        self.assertEqual(desk.say("letters"), "0")
        self.assertEqual((desk.say("ask a"), desk.say("letters")), ("0 1", "2"))
        desk.say("program b folder f")
        self.assertEqual((desk.say("round"), desk.say("letters")), ("1", "7"))

    def test_running(self):
        desk = desk_with("start a 1")
        self.assertEqual((desk.say("running a"), desk.say("running b")), ("yes", "no"))
        desk.say("fall a")
        self.assertEqual(desk.say("running a"), "no")

    def test_all_answers_are_strings(self):
        desk = desk_with(*AHEAD)
        for line in [line for line, _ in FORMS] + list(OWN):
            try:
                self.assertIs(type(desk.say(line)), str)
            except TreeError:
                pass
