"""A disc's book: lines, what they tell behind a fall, and what is mended then."""

import random
import unittest

from allonetree.books import book_line, mending, read_book
from allonetree.discs import Disc
from allonetree.errors import BadBook, BadBooked, NoDisc
from tests import plain_forms, plain_keeping
from tests.values import any_values, bends, raised

ITEM, OTHER = (1, 0), (20, 300)
BORN = ("born", ITEM, 1, "file", None, "a", "")
LINK = ("born", (1, 1), 2, "link", None, "l", "x | y ; z")
WROTE = ("write", (1, 2), 3, ITEM, " b | c ; 1 - ", ((1, 1), (20, 300)))
EMPTY = ("write", (1, 3), 4, ITEM, "", ())
PUT = ("put", (2, 0), 1, ITEM, (1, 0), "-")
GONE = ("gone", (2, 1), 2, ITEM, ())

# ROWS of all forms, and their words.
ROWS = (
    ((1, ("item", ITEM), (0, "a"), (1, 2), (ITEM,)), "1 item 1.0 at 0 a 1.2 1.0"),
    ((2, ("item", OTHER), None, None, ()), "2 item 20.300 room - -"),
    ((3, ("beside", ITEM, OTHER), (12, "room"), OTHER, ()), "3 beside 1.0 20.300 at 12 room 20.300 -"),
    ((4, ("beside", OTHER, ITEM), None, None, ((1, 0), (1, 5), (20, 300))), "4 beside 20.300 1.0 room - 1.0,1.5,20.300"),
    ((5, ("item", ITEM), (1, "-"), None, ((1, 0), (2, 0))), "5 item 1.0 at 1 - - 1.0,2.0"),
    ((6, ("item", ITEM), (0, "at"), (1, 2), ()), "6 item 1.0 at 0 at 1.2 -"),
    ((700, ("item", ITEM), (999, "1"), (1, 2), (ITEM,)), "700 item 1.0 at 999 1 1.2 1.0"),
    ((8, ("beside", ITEM, ITEM), (0, "item"), None, ()), "8 beside 1.0 1.0 at 0 item - -"),
)
ROW = {row[0]: row for row, _ in ROWS}

DEEDS = (
    (BORN, "born 1.0 1 file root a"),
    (LINK, "born 1.1 2 link root l =x | y ; z"),
    (WROTE, "write 1.2 3 1.0 1.1,20.300 = b | c ; 1 - "),
    (EMPTY, "write 1.3 4 1.0 - ="),
    (PUT, "put 2.0 1 1.0 1.0 -"),
    (GONE, "gone 2.1 2 1.0 -"),
)


def lines():
    """Each BOOKED of many, with its line."""
    found = [(("life", 1), "life 1"), (("life", 1000000), "life 1000000")]
    found += [(("done", 1), "done 1"), (("done", 700), "done 700"), (("not", 1), "not 1"), (("not", 2), "not 2")]
    for deed, text in DEEDS:
        found.append((("heard", deed), "heard " + text))
        found.append((("told", ((1, None),), deed), "told 1 - | " + text))
        for row, words in ROWS:
            found.append((("told", ((row[0], row),), deed), f"told {words} | {text}"))
    for row, words in ROWS:
        found.append((("rows", ((row[0], row),)), "rows " + words))
        found.append((("shift", row), "shift " + words))
    found.append((("rows", ((7, None),)), "rows 7 -"))
    found.append((("rows", ((1, None), (2, ROW[2]), (9, None))), "rows 1 - ; 2 item 20.300 room - - ; 9 -"))
    both = "1 item 1.0 at 0 a 1.2 1.0 ; 3 beside 1.0 20.300 at 12 room 20.300 -"
    found.append((("rows", ((1, ROW[1]), (3, ROW[3]))), "rows " + both))
    found.append((("told", ((1, ROW[1]), (3, ROW[3])), WROTE), f"told {both} | write 1.2 3 1.0 1.1,20.300 = b | c ; 1 - "))
    return found


def with_book(*lines):
    disc = Disc()
    for line in lines:
        disc.note(line if isinstance(line, str) else plain_keeping.line(line))
    return disc


def read(*lines):
    return read_book(with_book(*lines))


class Lines(unittest.TestCase):
    def test_each_booked_and_its_line(self):
        for booked, line in lines():
            self.assertEqual(book_line(booked), line)
            self.assertEqual(plain_keeping.line(booked), line)
            self.assertEqual(plain_keeping.read_line(line), booked)

    def test_what_is_not_booked(self):
        met = 0
        for booked, _ in lines():
            for value in bends(booked):
                if plain_forms.booked(value):
                    book_line(value)
                else:
                    met += 1
                    self.assertIs(raised(BadBooked, book_line, value), value)
        self.assertGreater(met, 3000)
        for value in any_values():
            self.assertIs(raised(BadBooked, book_line, value), value)
        for value in (
            ("life", 0),
            ("life", 1000001),
            ("life", True),
            ("life",),
            ("life", 1, 1),
            ("lives", 1),
            ("heard", BORN, BORN),
            ("heard", BORN[:6]),
            ("told", (), BORN),
            ("told", BORN, ((1, None),)),
            ("told", ((1, None),)),
            ("told", ((1, None),), None),
            ("rows", ()),
            ("rows", ((2, ROW[1]),)),
            ("rows", ((2, None), (1, None))),
            ("rows", ((1, None), (1, None))),
            ("rows", ((0, None),)),
            ("rows", ((1, None),), BORN),
            ("shift", 1, ROW[1]),
            ("shift", None),
            ("shift", ROW[1][:4]),
            ("done", 0),
            ("done", True),
            ("done", "1"),
            ("not", -1),
            ("not",),
            (1, 1),
            (("life",), 1),
            (["life"], 1),
            ["life", 1],
        ):
            self.assertIs(raised(BadBooked, book_line, value), value)


class Read(unittest.TestCase):
    def test_no_lines(self):
        self.assertEqual(read(), ((), (), None))

    def test_lines_of_all_forms(self):
        for booked, line in lines():
            if booked[0] == "rows" and all(row is not None for _, row in booked[1]):
                self.assertEqual(read(line), ((), tuple(row for _, row in booked[1]), None))
            elif booked[0] == "shift":
                row = booked[1]
                ahead = (row[0], ("item", (9, 9)), None, None, ())
                self.assertEqual(read(("rows", ((row[0], ahead),)), line), ((), (ahead,), row))
            elif booked[0] == "life":
                self.assertEqual(read(line, line), ((), (), None))

    def test_deeds(self):
        told = tuple(("heard", deed) for deed, _ in DEEDS)
        for many in range(len(told) + 1):
            self.assertEqual(read(*told[:many]), (tuple(deed for _, deed in told[:many]), (), None))
        # In whatever sequence they came.
        order = (PUT, BORN, GONE, LINK, WROTE)
        found = read(*[("heard", deed) for deed in order])
        self.assertEqual(found, ((BORN, LINK, WROTE, PUT, GONE), (), None))

    def test_behind_each_number_of_lines(self):
        row = ROW[1]
        other = (1,) + ROW[5][1:]
        steps = (
            (("life", 1), ((), (), None)),
            (("heard", PUT), ((PUT,), (), None)),
            (("told", ((1, row),), BORN), ((BORN, PUT), (row,), None)),
            (("rows", ((1, other), (3, ROW[3]))), ((BORN, PUT), (other, ROW[3]), None)),
            (("shift", row), ((BORN, PUT), (other, ROW[3]), row)),
            (("life", 7), ((BORN, PUT), (other, ROW[3]), row)),
            (("heard", GONE), ((BORN, PUT, GONE), (other, ROW[3]), row)),
            (("done", 1), ((BORN, PUT, GONE), (row, ROW[3]), None)),
            (("shift", ROW[3]), ((BORN, PUT, GONE), (row, ROW[3]), ROW[3])),
            (("told", ((2, ROW[2]), (3, None)), LINK), ((BORN, LINK, PUT, GONE), (row, ROW[2]), ROW[3])),
            (("not", 3), ((BORN, LINK, PUT, GONE), (row, ROW[2]), None)),
            (("rows", ((1, None), (2, None))), ((BORN, LINK, PUT, GONE), (), None)),
        )
        for many in range(1, len(steps) + 1):
            self.assertEqual(read(*[booked for booked, _ in steps[:many]]), steps[many - 1][1])

    def test_done_tells_the_row_whatever_became_of_it(self):
        row = (1,) + ROW[6][1:]
        begin = (("rows", ((1, ROW[1]),)), ("shift", row))
        self.assertEqual(read(*begin, ("rows", ((1, None),)), ("done", 1)), ((), (row,), None))
        self.assertEqual(read(*begin, ("rows", ((1, None),)), ("not", 1)), ((), (), None))
        other = (1,) + ROW[8][1:]
        self.assertEqual(read(*begin, ("rows", ((1, other),)), ("done", 1)), ((), (row,), None))
        self.assertEqual(read(*begin, ("rows", ((1, other),)), ("not", 1)), ((), (other,), None))
        self.assertEqual(read(*begin, ("not", 1)), ((), (ROW[1],), None))
        self.assertEqual(read(*begin, ("not", 1), ("shift", ROW[1])), ((), (ROW[1],), ROW[1]))

    def test_a_life_can_be_told_again(self):
        self.assertEqual(read("life 5", "life 5", "life 4"), ((), (), None))


class CannotStand(unittest.TestCase):
    def cannot(self, *lines):
        """The last one of the lines cannot stand, whatever comes behind it; those ahead of it can."""
        read(*lines[:-1])
        self.assertEqual(raised(BadBook, read, *lines), len(lines))
        self.assertEqual(raised(BadBook, read, *lines, "life 1"), len(lines))
        self.assertEqual(raised(BadBook, read, *lines, "nothing"), len(lines))
        self.assertEqual(raised(BadBook, mending, with_book(*lines)), len(lines))
        self.assertEqual(plain_keeping.read_book(with_book(*lines)), len(lines))

    def test_deeds_that_were_booked(self):
        told = ("told", ((1, ROW[1]),), BORN)
        for first in (("heard", BORN), told):
            for again in (("heard", BORN), told, ("heard", BORN[:5] + ("b", "")), ("told", ((1, ROW[1]),), BORN[:5] + ("b", ""))):
                self.cannot(first, again)
        self.cannot(("heard", BORN), ("heard", LINK), ("heard", BORN))

    def test_deeds_that_would_not_be_heard(self):
        self.cannot(("heard", LINK))
        self.cannot(("told", ((1, ROW[1]),), LINK))
        self.cannot(("heard", BORN), ("heard", WROTE))
        self.cannot(("heard", BORN), ("heard", GONE))
        for stamp in (1, 2):
            late = ("gone", (2, 1), stamp, ITEM, ())
            self.cannot(("heard", PUT[:2] + (2,) + PUT[3:]), ("heard", late))
            self.cannot(("heard", PUT[:2] + (2,) + PUT[3:]), ("told", ((1, ROW[1]),), late))

    def test_none_for_a_node_without_a_row(self):
        self.cannot(("rows", ((1, None),)))
        self.cannot(("told", ((1, None),), BORN))
        self.cannot(("rows", ((1, ROW[1]), (2, None))))
        self.cannot(("rows", ((1, ROW[1]),)), ("rows", ((1, None),)), ("rows", ((1, None),)))
        self.cannot(("rows", ((1, ROW[1]),)), ("rows", ((1, None), (3, None))))

    def test_shifts(self):
        self.cannot(("shift", ROW[1]))
        self.cannot(("rows", ((2, ROW[2]),)), ("shift", ROW[1]))
        both = ("rows", ((1, ROW[1]), (2, ROW[2])))
        self.cannot(both, ("shift", ROW[1]), ("shift", ROW[2]))
        self.cannot(both, ("shift", ROW[1]), ("shift", ROW[1]))
        self.cannot(both, ("rows", ((1, None),)), ("shift", ROW[1]))

    def test_done_and_not(self):
        rows = ("rows", ((1, ROW[1]), (2, ROW[2])))
        for word in ("done", "not"):
            self.cannot((word, 1))
            self.cannot(rows, (word, 1))
            self.cannot(rows, ("shift", ROW[1]), (word, 2))
            for first in ("done", "not"):
                self.cannot(rows, ("shift", ROW[1]), (first, 1), (word, 1))

    def test_what_is_no_line_of_anything(self):
        for line in (
            "",
            " ",
            "life",
            "life ",
            "life 0",
            "life 01",
            "life +1",
            "life 1 ",
            " life 1",
            "life  1",
            "Life 1",
            "life 1 1",
            "life 1000001",
            "life a",
            "life True",
            "life 1\r",
            "life \u0661",
            "life 1.0",
            "heard",
            "heard ",
            "heard x",
            "heard  born 1.0 1 file root a",
            "heard born 1.0 1 file root a ",
            "heard born 1.0 1 file root a =",
            "heard born 1.0 01 file root a",
            "told 1 - | born 1.0 1 file root a",
            "told born 1.0 1 file root a",
            "told | born 1.0 1 file root a",
            "told  | born 1.0 1 file root a",
            "told 1 item 1.0 room - -",
            "told 1 item 1.0 room - - |",
            "told 1 item 1.0 room - - | ",
            "told 1 item 1.0 room - -| born 1.0 1 file root a",
            "told 1 item 1.0 room - -  | born 1.0 1 file root a",
            "told 1 item 1.0 room - - |  born 1.0 1 file root a",
            "told 1 item 1.0 room - - | 2 item 1.0 room - - | born 1.0 1 file root a",
            "rows",
            "rows ",
            "rows 1",
            "rows -",
            "rows 0 item 1.0 room - -",
            "rows 1 item 1.0 room - - ;",
            "rows 1 item 1.0 room - - ; ",
            "rows 1 item 1.0 room - -; 2 item 1.0 room - -",
            "rows 1 item 1.0 room - -  ; 2 item 1.0 room - -",
            "rows 2 item 1.0 room - - ; 1 item 1.0 room - -",
            "rows 1 item 1.0 room - - ; 1 item 1.0 room - -",
            "rows 1 item 1.0 room - - | born 1.0 1 file root a",
            "shift",
            "shift ",
            "shift 1 -",
            "shift 1",
            "done",
            "done ",
            "done 0",
            "not x",
            "not 1 2",
            "nothing 1",
            "show 1",
        ):
            self.cannot(line)
            self.cannot("life 1", line)

    def test_rows_with_words_that_are_bent(self):
        good = "rows 1 item 1.0 at 0 a 1.2 1.0,1.5"
        read(good)
        for line in (
            "rows 01 item 1.0 at 0 a 1.2 1.0,1.5",
            "rows 1 1 item 1.0 at 0 a 1.2 1.0,1.5",
            "rows 1 items 1.0 at 0 a 1.2 1.0,1.5",
            "rows 1 item 1 at 0 a 1.2 1.0,1.5",
            "rows 1 item 1.0.0 at 0 a 1.2 1.0,1.5",
            "rows 1 item 0.0 at 0 a 1.2 1.0,1.5",
            "rows 1 item 1.00 at 0 a 1.2 1.0,1.5",
            "rows 1 item 1.0 1.2 at 0 a 1.2 1.0,1.5",
            "rows 1 item - at 0 a 1.2 1.0,1.5",
            "rows 1 beside 1.0 at 0 a 1.2 1.0,1.5",
            "rows 1 beside 1.0 1.2 1.2 at 0 a 1.2 1.0,1.5",
            "rows 1 item 1.0 in 0 a 1.2 1.0,1.5",
            "rows 1 item 1.0 at a 1.2 1.0,1.5",
            "rows 1 item 1.0 at 0 1.2 1.0,1.5",
            "rows 1 item 1.0 at -1 a 1.2 1.0,1.5",
            "rows 1 item 1.0 at 00 a 1.2 1.0,1.5",
            "rows 1 item 1.0 at 0 a/b 1.2 1.0,1.5",
            "rows 1 item 1.0 at 0 .. 1.2 1.0,1.5",
            "rows 1 item 1.0 at 0  1.2 1.0,1.5",
            "rows 1 item 1.0 room 0 a 1.2 1.0,1.5",
            "rows 1 item 1.0 room a 1.2 1.0,1.5",
            "rows 1 item 1.0 Room 1.2 1.0,1.5",
            "rows 1 item 1.0 1.2 1.0,1.5",
            "rows 1 item 1.0 at 0 a 1.2",
            "rows 1 item 1.0 at 0 a 1.2 ",
            "rows 1 item 1.0 at 0 a None 1.0,1.5",
            "rows 1 item 1.0 at 0 a 1 1.0,1.5",
            "rows 1 item 1.0 at 0 a 1.2,1.3 1.0,1.5",
            "rows 1 item 1.0 at 0 a 1.2 1.0,",
            "rows 1 item 1.0 at 0 a 1.2 ,1.5",
            "rows 1 item 1.0 at 0 a 1.2 1.0, 1.5",
            "rows 1 item 1.0 at 0 a 1.2 1.5,1.0",
            "rows 1 item 1.0 at 0 a 1.2 1.0,1.0",
            "rows 1 item 1.0 at 0 a 1.2 1.0,-",
            "rows 1 item 1.0 at 0 a 1.2 1.0 1.5",
            "rows 1 item 1.0 at 0 a 1.2 1.0,1.5 ",
            "rows  1 item 1.0 at 0 a 1.2 1.0,1.5",
            "rows 1  item 1.0 at 0 a 1.2 1.0,1.5",
        ):
            self.cannot(line)
            self.cannot(good, line.replace("rows", "shift", 1))

    def test_lines_left_out_twice_exchanged_and_bent(self):
        for seed in range(60):
            chance = random.Random(seed)
            whole = some_book(chance)
            disc = with_book(*whole)
            self.assertEqual(read_book(disc), plain_keeping.read_book(disc))
            for _ in range(12):
                bent = list(whole)
                at, other = chance.randrange(len(bent)), chance.randrange(len(bent))
                lot = chance.randrange(5)
                if lot == 0:
                    del bent[at]
                elif lot == 1:
                    bent.insert(other, bent[at])
                elif lot == 2:
                    bent[at], bent[other] = bent[other], bent[at]
                elif lot == 3:
                    words = bent[at].split(" ")
                    word = chance.randrange(len(words))
                    words[word] = chance.choice(("", "1", "-", "2.0", "room", words[word] + "0", "|", ";", "x"))
                    bent[at] = " ".join(words)
                else:
                    place = chance.randrange(len(bent[at]))
                    bent[at] = bent[at][:place] + chance.choice(" .,-;|0123aZ\t") + bent[at][place + chance.randrange(2) :]
                disc = with_book(*bent)
                told = plain_keeping.read_book(disc)
                if isinstance(told, int):
                    self.assertEqual(raised(BadBook, read_book, disc), told)
                    self.assertEqual(raised(BadBook, mending, disc), told)
                else:
                    self.assertEqual(read_book(disc), told)


def some_book(chance):
    """Lines that can stand: deeds of two LIVES, rows, shifts."""
    found, known, numbers, shift = ["life 1"], {}, {1: 0, 2: 0}, None
    for _ in range(chance.randint(4, 14)):
        lot = chance.random()
        changes = {}
        for node in sorted(chance.sample(range(1, 6), chance.randint(1, 2))):
            row = chance.choice(ROWS)[0]
            changes[node] = None if node in known and chance.random() < 0.3 else (node,) + row[1:]
        deed = None
        if lot < 0.5:
            life = chance.choice((1, 2))
            number = numbers[life]
            numbers[life] += 1
            deed = chance.choice((WROTE, GONE, PUT, LINK))
            deed = deed[:1] + ((life, number), 2 * number + 1) + deed[3:]
        if lot < 0.25:
            found.append(plain_keeping.line(("heard", deed)))
        elif lot < 0.7:
            known.update(changes)
            known = {node: row for node, row in known.items() if row is not None}
            rows = tuple(changes.items())
            found.append(plain_keeping.line(("rows", rows) if deed is None else ("told", rows, deed)))
        elif shift is None and known:
            shift = chance.choice(sorted(known))
            found.append(plain_keeping.line(("shift", (shift,) + chance.choice(ROWS)[0][1:])))
        elif shift is not None:
            word = chance.choice(("done", "not"))
            if word == "done":
                known[shift] = plain_keeping.read_line([line for line in found if line.startswith("shift")][-1])[1]
            found.append(f"{word} {shift}")
            shift = None
        else:
            found.append("life 2")
    return found


class Mending(unittest.TestCase):
    def disc(self, *lines):
        """1 at a, 2 at b, 3 a folder at c; 4 a file, 5 a folder, both in the ROOM; 6 in 5."""
        disc = Disc()
        for act in (("file", "a", ""), ("link", "b", ""), ("folder", "c")):
            disc.do(act)
        for kind in ("file", "folder", "file"):
            disc.make(kind, "")
        disc.shift(6, None, (5, "x"))
        for line in lines:
            disc.note(plain_keeping.line(line))
        return disc

    def mends(self, disc, *steps):
        """All steps, one behind the other; each tells the same as long as it is not done."""
        for step in steps:
            before = disc.copy()
            self.assertEqual(mending(disc), step)
            self.assertEqual(mending(disc), step)
            self.assertEqual(plain_keeping.mending(disc), step)
            self.assertTrue(disc == before)
            if step[0] == "line":
                disc.note(step[1])
            else:
                self.assertIs(disc.drop(step[1]), True)
        self.assertIsNone(mending(disc))
        self.assertIsNone(mending(disc.copy()))

    def row(self, node, place):
        return (node, ("item", (1, node)), place, None, ())

    def known(self, *places):
        return ("rows", tuple((node, self.row(node, place)) for node, place in places))

    def test_nothing(self):
        self.assertIsNone(mending(Disc()))
        self.mends(self.disc(self.known((4, None), (5, None))))

    def test_unknown_nodes_in_the_room(self):
        self.mends(self.disc(), ("drop", 4))
        self.mends(self.disc(self.known((1, (0, "a")), (5, None), (6, (5, "x")))), ("drop", 4))
        # A folder with a name in it stays, as does what is in it; without it goes.
        disc = self.disc()
        disc.shift(6, (5, "x"), None)
        self.mends(disc, ("drop", 4), ("drop", 5), ("drop", 6))
        disc = self.disc(self.known((6, (5, "x"))))
        disc.shift(6, (5, "x"), None)
        self.mends(disc, ("drop", 4), ("drop", 5))

    def test_the_least_node_first(self):
        disc = self.disc()
        for kind in ("link", "folder", "file"):
            disc.make(kind, "")
        disc.shift(2, (0, "b"), None)
        self.mends(disc, ("drop", 2), ("drop", 4), ("drop", 7), ("drop", 8), ("drop", 9))

    def test_known_nodes_stay_wherever_they_are_known(self):
        # Their ROWS tell other places than those where they lie.
        self.mends(self.disc(self.known((4, (0, "z")), (5, (3, "y")))))

    def test_a_shift_that_was_done(self):
        begin = (self.known((1, (0, "a")), (4, None), (5, None)), ("shift", self.row(1, None)))
        disc = self.disc(*begin)
        disc.shift(1, (0, "a"), None)
        self.mends(disc, ("line", "done 1"))
        self.assertEqual(read_book(disc)[1][0], self.row(1, None))
        disc = self.disc(self.known((4, None), (5, None)), ("shift", self.row(4, (3, "n"))))
        disc.shift(4, None, (3, "n"))
        self.mends(disc, ("line", "done 4"))
        self.assertEqual(read_book(disc)[1][0], self.row(4, (3, "n")))

    def test_a_shift_that_was_not(self):
        disc = self.disc(self.known((1, (0, "a")), (4, None), (5, None)), ("shift", self.row(1, None)))
        self.mends(disc, ("line", "not 1"))
        self.assertEqual(read_book(disc)[1][0], self.row(1, (0, "a")))
        self.mends(self.disc(self.known((4, None), (5, None)), ("shift", self.row(4, (3, "n")))), ("line", "not 4"))

    def test_a_node_that_a_program_moved_on_or_took_away(self):
        for act in (("move", "c/n", "c/m"), ("move", "c/n", "c/N"), ("move", "c/n", "n"), ("gone", "c/n"), ("gone", "c")):
            disc = self.disc(self.known((4, None), (5, None)), ("shift", self.row(4, (3, "n"))))
            disc.shift(4, None, (3, "n"))
            disc.do(act)
            self.mends(disc, ("line", "not 4"))
        # It was moved to where it should have been shifted.
        disc = self.disc(self.known((1, (0, "a")), (4, None), (5, None)), ("shift", self.row(1, (3, "n"))))
        disc.do(("move", "a", "c/n"))
        self.mends(disc, ("line", "done 1"))

    def test_the_shift_comes_first_and_then_the_room(self):
        disc = self.disc(self.known((1, (0, "a"))), ("shift", self.row(1, None)))
        disc.shift(1, (0, "a"), None)
        self.mends(disc, ("line", "done 1"), ("drop", 4))
        disc = self.disc(self.known((1, (0, "a"))), ("shift", self.row(1, None)), ("rows", ((1, None),)))
        disc.shift(1, (0, "a"), None)
        # done tells its ROW anew.
        self.mends(disc, ("line", "done 1"), ("drop", 4))
        disc = self.disc(self.known((4, None)), ("shift", self.row(4, (0, "z"))), ("rows", ((4, None),)))
        self.mends(disc, ("line", "not 4"), ("drop", 4))

    def test_what_programs_see_is_never_dropped(self):
        disc = self.disc()
        before = disc.rows()
        self.mends(disc, ("drop", 4))
        self.assertEqual(disc.rows(), before)

    def test_what_is_no_disc(self):
        for value in any_values():
            if not isinstance(value, Disc):
                self.assertIs(raised(NoDisc, read_book, value), value)
                self.assertIs(raised(NoDisc, mending, value), value)
