"""Journals, there and back, and which line cannot stand."""

import random
import unittest

from allonetree.benches import Bench
from allonetree.errors import BadJournal, TreeError
from allonetree.journals import journal, read_journal
from tests.test_benches import AHEAD, NO_FORMS, Undoing, begun, some_line, told
from tests.values import any_values, raised
from tests.weaving import state


class There(unittest.TestCase):
    def test_lines(self):
        self.assertEqual(journal(Bench(("a",))), "names a\ndeeds")
        self.assertEqual(journal(bench=Bench(("sea", "Hill", "x.y"))), "names sea Hill x.y\ndeeds")
        bench = begun("program a file f  two  words ")
        self.assertEqual(journal(bench), "names a b\ndeeds\nstart a 1\nstart b 2\nprogram a file f  two  words ")
        bench.undo()
        self.assertEqual(journal(bench), "names a b\ndeeds\nstart a 1\nstart b 2")

    def test_what_is_refused_or_tried_is_not_there(self):
        bench = begun()
        before = journal(bench)
        self.assertRaises(TreeError, bench.do, "start a 1")
        bench.tried(lambda one: one.do("rest"))
        self.assertEqual(journal(bench), before)
        bench.tried(lambda one: one.do("rest"), keep=True)
        self.assertEqual(journal(bench), before + "\nrest")

    def test_it_changes_nothing(self):
        bench = begun("ask a")
        bench.undo()
        before = told(bench)
        self.assertEqual(journal(bench), journal(bench))
        self.assertEqual(told(bench), before)


class Back(unittest.TestCase):
    def test_there_and_back(self):
        for names, lines in ((("a",), ()), (("a", "b"), AHEAD), (("a", "b"), Undoing.LINES), (("x", "Y", "z", "w"), ("rest",))):
            bench = Bench(names)
            for line in lines:
                bench.do(line)
            other = read_journal(text=journal(bench))
            self.assertIs(type(other), Bench)
            self.assertTrue(other == bench)
            self.assertEqual(told(other), told(bench))
            # All of it can be undone.
            for _ in lines:
                other.undo()
            self.assertEqual(journal(other), " ".join(("names",) + names) + "\ndeeds")

    def test_drawn(self):
        for seed in range(12):
            chance = random.Random(seed)
            bench = Bench(("a", "b", "c"))
            for life in range(1, 50):
                try:
                    bench.do(some_line(chance, bench.world(), life))
                except TreeError:
                    pass
            other = read_journal(journal(bench))
            self.assertTrue(other == bench)
            self.assertEqual(state(other.world()), state(bench.world()))

    def bad(self, text, number):
        self.assertEqual(raised(BadJournal, read_journal, text), number, text)

    def test_what_is_no_string(self):
        for value in any_values() + [["names a", "deeds"], b"names a\ndeeds"]:
            if not isinstance(value, str):
                self.bad(value, 0)

    def test_the_first_line(self):
        for line in (
            "",
            " ",
            "names",
            "names ",
            "names a ",
            "names  a",
            " names a",
            "names a  b",
            "Names a",
            "name a",
            "names a a",
            "names a A",
            "names a b c d e",
            "names a/b",
            "names .",
            "names a b ..",
            "names a,b",
            "names \u00e4",
            "names a\t",
            "deeds",
            "start a 1",
        ):
            self.bad(line, 1)
            self.bad(line + "\ndeeds", 1)
            self.bad(line + "\ndeeds\nstart a 1", 1)
        for line in ("names a", "names a b c d", "names ... -", "names names", "names deeds"):
            self.assertEqual(journal(read_journal(line + "\ndeeds")), line + "\ndeeds")

    def test_the_second_line(self):
        self.bad("names a", 2)
        for line in ("", "deed", "deeds ", " deeds", "Deeds", "start a 1", "names a"):
            self.bad("names a\n" + line, 2)
            self.bad("names a\n" + line + "\ndeeds\nstart a 1", 2)

    def test_later_lines(self):
        good = ["names a b", "deeds"] + list(AHEAD)
        for line in NO_FORMS + ("names a b", "start a 1", "start b 2", "program a folder f", "fall c", "deliver 9", "back a"):
            for at in (2, 5, len(good)):
                lines = good[:at] + [line] + good[at:]
                try:
                    read_journal("\n".join(lines))
                except BadJournal as error:
                    number = error.value
                else:
                    number = None
                # Some of them can stand at some place.
                bench = Bench(("a", "b"))
                found = None
                for place, one in enumerate(lines[2:], 3):
                    try:
                        bench.do(one)
                    except TreeError:
                        found = place
                        break
                self.assertEqual(number, found)
                if line in NO_FORMS:
                    self.assertEqual(number, at + 1)

    def test_line_feeds(self):
        self.bad("names a\ndeeds\n", 3)
        self.bad("names a\ndeeds\n\nstart a 1", 3)
        self.bad("names a\ndeeds\nstart a 1\n", 4)
        self.bad("\nnames a\ndeeds", 1)
        self.bad("names a\r\ndeeds", 1)
        self.bad("names a\ndeeds\r", 2)
        self.bad("names a\ndeeds\nstart a 1\r", 3)

    def test_what_cannot_be_done_at_its_place(self):
        self.bad("names a b\ndeeds\nfall a\nstart a 1", 3)
        self.bad("names a b\ndeeds\nstart a 1\nfall a\nstart a 1", 5)
        self.bad("names a b\ndeeds\nstart a 1\ndeliver 0\nask a", 4)
        self.bad("names a b\ndeeds\nprogram a file x/y t\nprogram a folder x", 3)
        self.bad("names a b\ndeeds\nprogram a folder x\nprogram a folder X", 4)
        self.bad("names a b\ndeeds\nundo", 3)
        self.bad("names a b\ndeeds\nstart a 1\nundo", 4)
