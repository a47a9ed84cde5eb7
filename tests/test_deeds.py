"""Deeds as lines, and lines as deeds."""

import unittest

from allonetree.deeds import deed_text, read_deed
from allonetree.discs import Disc
from allonetree.errors import BadDeed, BadText
from tests.values import any_values, nested, raised

SIGNS = "".join([chr(sign) for sign in range(32, 127)])

# Each DEED, and its line.
LINES = (
    (("born", (1, 0), 1, "folder", None, "a", ""), "born 1.0 1 folder root a"),
    (
        ("born", (1000000, 999999999), 999999999, "folder", (1, 0), "A-b_c.D", ""),
        "born 1000000.999999999 999999999 folder 1.0 A-b_c.D",
    ),
    (("born", (7, 1), 2, "file", (7, 0), "a.txt", ""), "born 7.1 2 file 7.0 a.txt"),
    (("born", (7, 1), 2, "file", None, "root", ""), "born 7.1 2 file root root"),
    (("born", (7, 1), 2, "file", (10, 20), "-", ""), "born 7.1 2 file 10.20 -"),
    (("born", (7, 1), 2, "file", (7, 1), "1.0", ""), "born 7.1 2 file 7.1 1.0"),
    (("born", (7, 1), 2, "link", None, "l", ""), "born 7.1 2 link root l ="),
    (("born", (7, 1), 2, "link", (7, 0), "link", "a/b"), "born 7.1 2 link 7.0 link =a/b"),
    (("born", (7, 1), 2, "link", None, "l", " a  b "), "born 7.1 2 link root l = a  b "),
    (("born", (7, 1), 2, "link", None, "l", "="), "born 7.1 2 link root l =="),
    (("born", (7, 1), 2, "link", None, "l", " ="), "born 7.1 2 link root l = ="),
    (("born", (7, 1), 2, "link", None, "l", SIGNS), "born 7.1 2 link root l =" + SIGNS),
    (("born", (7, 1), 2, "link", None, "l", "~" * 400), "born 7.1 2 link root l =" + "~" * 400),
    (("put", (4, 0), 3, (7, 1), None, "b.txt"), "put 4.0 3 7.1 root b.txt"),
    (("put", (4, 0), 3, (7, 1), (7, 0), "..."), "put 4.0 3 7.1 7.0 ..."),
    (("put", (4, 0), 3, (4, 0), (4, 0), "x"), "put 4.0 3 4.0 4.0 x"),
    (("put", (4, 0), 3, (7, 1), None, "n" * 60), "put 4.0 3 7.1 root " + "n" * 60),
    (("write", (7, 2), 3, (7, 1), "one = two", ()), "write 7.2 3 7.1 - =one = two"),
    (("write", (7, 2), 3, (7, 1), "", ()), "write 7.2 3 7.1 - ="),
    (("write", (4, 1), 5, (7, 1), "", ((7, 2),)), "write 4.1 5 7.1 7.2 ="),
    (("write", (4, 1), 5, (7, 1), " ", ((7, 2),)), "write 4.1 5 7.1 7.2 = "),
    (("write", (4, 1), 5, (7, 1), "=", ((7, 2), (7, 10))), "write 4.1 5 7.1 7.2,7.10 =="),
    (("write", (4, 1), 5, (7, 1), " =", ((4, 1), (7, 2), (7, 10), (10, 0))), "write 4.1 5 7.1 4.1,7.2,7.10,10.0 = ="),
    (("write", (4, 1), 5, (7, 1), "-", ((2, 9),)), "write 4.1 5 7.1 2.9 =-"),
    (("write", (4, 1), 5, (7, 1), SIGNS, ()), "write 4.1 5 7.1 - =" + SIGNS),
    (("write", (4, 1), 5, (7, 1), " " * 400, ()), "write 4.1 5 7.1 - =" + " " * 400),
    (("gone", (4, 2), 9, (7, 1), ()), "gone 4.2 9 7.1 -"),
    (("gone", (4, 2), 9, (7, 1), ((4, 1), (7, 2))), "gone 4.2 9 7.1 4.1,7.2"),
    (("gone", (4, 2), 9, (4, 2), ((4, 2),)), "gone 4.2 9 4.2 4.2"),
)

NO_LIVES = [0, -1, 1000001, True, None, "1", (1,)]
NO_DOTS = [
    (),
    (1,),
    (1, 0, 0),
    [1, 0],
    "1.0",
    1,
    True,
    (1, -1),
    (1, True),
    (True, 0),
    (1, None),
    ("1", 0),
    (1, "0"),
    ((1, 0), 0),
]
NO_DOTS = NO_DOTS + [(life, 0) for life in NO_LIVES]
NO_STAMPS = [0, -1, True, False, None, "1", (), (1,), [1]]
NO_NAMES = ["", ".", "..", "a/b", "a b", "a\n", " a", "a:", "\u00e4", "\u0661", None, 1, ("a",), ["a"], b"a"]
NO_TEXTS = ["x" * 401, "a\n", "\t", "\x7f", "\u00e4", "\ud800", None, 1, ("a",), ["a"]]
NO_COVERS = [
    None,
    "",
    "-",
    1,
    [],
    [(1, 0)],
    ((1, 0), (1, 0)),
    ((1, 1), (1, 0)),
    ((2, 0), (1, 5)),
    (1, 0),
    ((1, 0), None),
    ((1, 0), (2, 0), (1, 1)),
]
NO_COVERS = NO_COVERS + [(dot,) for dot in NO_DOTS]
# What can stand at no place of any DEED.
ALL_OUT = [[], [1, 0], ["a"], {}, {1: 0}, -1, True, False, "a\nb", "\u00e4", "\ud800", nested(60), Disc(), (Disc(), 0)]
NO_KINDS = ["", "Folder", "FILE", "links", "gone", None, 1, True, ("file",), ["file"]]


class DeedText(unittest.TestCase):
    def test_lines(self):
        for deed, line in LINES:
            self.assertEqual(deed_text(deed), line)
            self.assertIs(type(deed_text(deed)), str)

    def test_no_two_deeds_have_one_line(self):
        self.assertEqual(len({line for deed, line in LINES}), len(LINES))

    def bad(self, deed):
        self.assertIs(raised(BadDeed, deed_text, deed), deed, deed)

    def bad_at(self, deed, place, values):
        """None of the values can stand at this place of the deed."""
        self.assertIsInstance(deed_text(deed), str)
        for value in values:
            self.bad(deed[:place] + (value,) + deed[place + 1 :])

    def test_any_value(self):
        for value in any_values():
            self.bad(value)

    def test_words_dots_and_stamps(self):
        for deed, line in LINES:
            self.bad_at(deed, 0, any_values() + ["Born", "PUT", "written", "go", "heard"])
            self.bad_at(deed, 1, NO_DOTS + [None])
            self.bad_at(deed, 2, NO_STAMPS)

    def test_any_value_at_each_place(self):
        for deed, line in LINES:
            for place in range(len(deed)):
                self.bad_at(deed, place, ALL_OUT)

    def test_words_of_another_deed(self):
        words = ("born", "put", "write", "gone")
        for deed, line in LINES:
            for word in words:
                if word != deed[0]:
                    self.bad((word,) + deed[1:])

    def test_born(self):
        for deed in (LINES[0][0], LINES[2][0], LINES[7][0]):
            self.bad_at(deed, 3, NO_KINDS)
            self.bad_at(deed, 4, NO_DOTS)
            self.bad_at(deed, 5, NO_NAMES)
            self.bad_at(deed, 6, NO_TEXTS)

    def test_born_has_a_text_for_links_alone(self):
        for kind in ("folder", "file"):
            self.bad(("born", (1, 0), 1, kind, None, "a", "x"))
            self.bad(("born", (1, 0), 1, kind, None, "a", " "))
            self.bad(("born", (1, 0), 1, kind, None, "a", None))

    def test_put(self):
        deed = ("put", (4, 0), 3, (7, 1), (7, 0), "b")
        self.bad_at(deed, 3, NO_DOTS + [None])
        self.bad_at(deed, 4, NO_DOTS)
        self.bad_at(deed, 5, NO_NAMES)

    def test_write(self):
        deed = ("write", (4, 0), 3, (7, 1), "text", ((7, 2),))
        self.bad_at(deed, 3, NO_DOTS + [None])
        self.bad_at(deed, 4, NO_TEXTS)
        self.bad_at(deed, 5, NO_COVERS)

    def test_gone(self):
        deed = ("gone", (4, 0), 3, (7, 1), ((7, 2),))
        self.bad_at(deed, 3, NO_DOTS + [None])
        self.bad_at(deed, 4, NO_COVERS)

    def test_wrong_lengths_and_lists(self):
        for deed, line in LINES:
            for many in range(len(deed)):
                self.bad(deed[:many])
            for more in (None, "", (), (1, 0)):
                self.bad(deed + (more,))
            self.bad(list(deed))
            self.bad((deed,))
            self.bad(line)

    def test_edges_of_lives_numbers_and_stamps(self):
        self.assertEqual(deed_text(("gone", (1000000, 0), 1, (1, 0), ())), "gone 1000000.0 1 1.0 -")
        self.bad(("gone", (1000001, 0), 1, (1, 0), ()))
        self.bad(("gone", (1, 0), 1, (1000001, 0), ()))
        self.bad(("gone", (1, 0), 1, (1, 0), ((1000001, 0),)))
        self.bad(("put", (1, 0), 1, (1, 0), (1000001, 0), "a"))


class ReadDeed(unittest.TestCase):
    def test_lines(self):
        for deed, line in LINES:
            found = read_deed(line)
            self.assertEqual(found, deed)
            self.assertEqual(repr(found), repr(deed))

    def bad(self, text):
        self.assertIs(raised(BadText, read_deed, text), text, text)

    def test_any_value(self):
        for value in any_values():
            self.bad(value)
        for deed, line in LINES:
            self.bad(deed)
            self.bad([line])

    def words(self, line):
        """The words of a line, the text behind = being one of them."""
        many = {"born": 6, "put": 5, "write": 5, "gone": 4}[line.split(" ")[0]]
        return line.split(" ", many)

    def test_a_word_left_out(self):
        for deed, line in LINES:
            words = self.words(line)
            for place in range(len(words)):
                self.bad(" ".join(words[:place] + words[place + 1 :]))
                self.bad(" ".join(words[:place] + [""] + words[place + 1 :]))

    def test_a_word_doubled(self):
        for deed, line in LINES:
            words = self.words(line)
            for place in range(len(words)):
                if not words[place].startswith("="):
                    self.bad(" ".join(words[:place] + [words[place]] + words[place:]))

    def test_two_words_exchanged(self):
        for deed, line in LINES:
            words = self.words(line)
            for place in range(len(words)):
                for other in range(place):
                    changed = list(words)
                    changed[place], changed[other] = words[other], words[place]
                    if changed != words:
                        self.exchanged(" ".join(changed), line)

    def exchanged(self, text, line):
        """Two DOTS, or a DOT and a NAME, may change places: then it is another DEED, with this line."""
        try:
            found = read_deed(text)
        except BadText as error:
            self.assertIs(error.value, text)
            return
        self.assertEqual(deed_text(found), text)
        self.assertNotEqual(found, read_deed(line))

    def test_words_in_another_sequence(self):
        for text in (
            "gone 9 4.2 7.1 -",
            "4.2 gone 9 7.1 -",
            "gone 4.2 7.1 9 -",
            "gone 4.2 9 - 7.1",
            "put 4.0 3 root 7.1 b",
            "put 4.0 3 7.1 b root",
            "put 4.0 3 b 7.1 root",
            "born 7.1 2 7.0 file a.txt",
            "born 7.1 2 file a.txt 7.0",
            "born 2 7.1 file 7.0 a.txt",
            "born 7.1 file 2 7.0 a.txt",
            "born 7.1 2 link root =x l",
            "write 7.2 3 - 7.1 =x",
            "write 7.2 3 7.1 =x -",
            "write 3 7.2 7.1 - =x",
            "=x write 7.2 3 7.1 -",
        ):
            self.bad(text)

    def test_a_blank_too_many(self):
        for deed, line in LINES:
            self.bad(" " + line)
            words = self.words(line)
            for place in range(1, len(words)):
                self.bad(" ".join(words[:place]) + "  " + " ".join(words[place:]))
            if "=" not in line:
                self.bad(line + " ")

    def test_other_blanks_and_ends_of_lines(self):
        for deed, line in LINES:
            for end in ("\n", "\r", "\t", "\x0b", "\u2028"):
                self.bad(line + end)
                self.bad(end + line)
                self.bad(line.replace(" ", end, 1))

    def test_text_where_there_is_none(self):
        for text in (
            "born 1.0 1 folder root a =",
            "born 1.0 1 file root a =x",
            "born 1.0 1 file root a ",
            "born 1.0 1 folder root a x",
            "put 4.0 3 7.1 root b =",
            "put 4.0 3 7.1 root b x",
            "gone 4.2 9 7.1 - =",
            "gone 4.2 9 7.1 - -",
            "gone 4.2 9 7.1 4.1 7.2",
        ):
            self.bad(text)

    def test_no_text_where_there_is_one(self):
        for text in (
            "born 7.1 2 link root l",
            "born 7.1 2 link root l ",
            "born 7.1 2 link root l x",
            "born 7.1 2 link root l  =",
            "born 7.1 2 link root =",
            "write 7.2 3 7.1 -",
            "write 7.2 3 7.1 - ",
            "write 7.2 3 7.1 - x",
            "write 7.2 3 7.1 -  =x",
            "write 7.2 3 7.1 =x",
            "write 7.2 3 7.1 -=x",
        ):
            self.bad(text)

    def test_texts_that_are_none(self):
        for text in ("x" * 401, "a\n", "\n", "\t", "\u00e4", "\x7f"):
            self.bad("write 7.2 3 7.1 - =" + text)
            self.bad("born 7.1 2 link root l =" + text)

    def test_integers_not_as_python_writes_them(self):
        words = [
            "01",
            "00",
            "+1",
            "-1",
            "1_0",
            "1.0",
            "",
            "x",
            "0x1",
            "1e3",
            "\u0661",
            "\u00b2",
            " 1",
            "-0",
            "+0",
            "1 ",
        ]
        for word in words:
            for text in (
                f"gone {word}.0 9 7.1 -",
                f"gone 4.{word} 9 7.1 -",
                f"gone 4.2 {word} 7.1 -",
                f"gone 4.2 9 {word}.1 -",
                f"gone 4.2 9 7.{word} -",
                f"gone 4.2 9 7.1 {word}.1",
                f"gone 4.2 9 7.1 1.{word}",
                f"gone 4.2 9 7.1 1.0,{word}.1",
                f"gone 4.2 9 7.1 1.0,2.{word}",
                f"put 4.0 3 7.{word} root b",
                f"put 4.0 3 7.1 {word}.0 b",
                f"put 4.0 3 7.1 7.{word} b",
                f"put 4.0 {word} 7.1 root b",
                f"born 1.{word} 1 file root a",
                f"born 1.0 {word} file root a",
                f"born 1.0 1 file {word}.1 a",
                f"born 1.0 1 link 1.{word} a =",
                f"write 7.{word} 3 7.1 - =",
                f"write 7.2 {word} 7.1 - =",
                f"write 7.2 3 {word}.1 - =",
                f"write 7.2 3 7.1 7.{word} =",
            ):
                self.bad(text)

    def test_each_sign_that_is_no_figure(self):
        for sign in SIGNS:
            if sign not in "0123456789":
                for text in (
                    f"gone 4.2 {sign} 7.1 -",
                    f"gone 4.2 9{sign} 7.1 -",
                    f"gone 4.2 9 7.{sign} -",
                    f"gone {sign}.2 9 7.1 -",
                ):
                    self.bad(text)

    def test_integers_too_small_or_too_great(self):
        for text in (
            "gone 0.0 1 1.0 -",
            "gone 1000001.0 1 1.0 -",
            "gone 1.0 0 1.0 -",
            "gone 1.0 1 0.0 -",
            "gone 1.0 1 1000001.0 -",
            "gone 1.0 1 1.0 0.1",
            "gone 1.0 1 1.0 1000001.0",
            "put 1.0 1 1.0 0.0 a",
            "put 1.0 1 1.0 1000001.0 a",
            "born 1.0 1 file 0.0 a",
            "born 0.0 1 file root a",
            "write 1.0 0 1.0 - =",
            "gone 7.3 0 7.1 -",
            "gone 1.0 1 1.0 1.0,1000001.0",
        ):
            self.bad(text)

    def test_integers_of_very_many_figures(self):
        self.bad("gone 1.0 1 " + "9" * 5000 + ".0 -")

    def test_covers(self):
        for covers in (
            "1.1,1.0",
            "1.0,1.0",
            "2.0,1.5",
            "1.0,2.0,1.1",
            "1.10,1.9",
            "10.0,9.0",
            "",
            ",",
            "1.0,",
            ",1.0",
            "1.0,,2.0",
            "1.0, 2.0",
            "-,1.0",
            "1.0,-",
            "--",
            "root",
            "none",
            "()",
            "1",
            "1.0.0",
            "1.0;2.0",
            "1:0",
            "1.0,root",
        ):
            self.bad(f"gone 4.2 9 7.1 {covers}")
            self.bad(f"write 4.2 9 7.1 {covers} =x")
        self.assertEqual(read_deed("gone 4.2 9 7.1 1.9,1.10,9.0,10.0")[4], ((1, 9), (1, 10), (9, 0), (10, 0)))

    def test_words_names_and_kinds_that_are_none(self):
        for word in ("Born", "BORN", "wrote", "told", "", "root", "deed", "gone.", "append", "get"):
            for deed, line in LINES:
                self.bad(" ".join([word] + line.split(" ")[1:]))
        for kind in ("Folder", "FILE", "links", "", "root", "-", "folder,file"):
            self.bad(f"born 1.0 1 {kind} root a")
            self.bad(f"born 1.0 1 {kind} root a =")
        for name in (".", "..", "", "a/b", "a:", "=", "=a", "\u00e4", "a,b", "a~"):
            self.bad(f"born 1.0 1 file root {name}")
            self.bad(f"born 1.0 1 link root {name} =x")
            self.bad(f"put 4.0 3 7.1 root {name}")

    def test_parents_and_items_that_are_none(self):
        for word in ("Root", "ROOT", "None", "-", "", "roots", "1", "1.", ".1", "1.0.0", "1,0", "1.0,2.0", "a", "()"):
            self.bad(f"born 1.0 1 file {word} a")
            self.bad(f"put 4.0 3 7.1 {word} a")
            if word != "-":
                self.bad(f"gone 4.2 9 {word} -")
        for word in ("root", "-", "7", "7.1.2", "7.1,7.2"):
            self.bad(f"put 4.0 3 {word} root a")
            self.bad(f"write 4.0 3 {word} - =")
            self.bad(f"gone 4.0 3 {word} -")
            self.bad(f"gone {word} 3 7.1 -")

    def test_equal_calls_return_equal_results(self):
        for deed, line in LINES:
            self.assertEqual(read_deed(line), read_deed(line))
            self.assertEqual(deed_text(deed), deed_text(read_deed(line)))
