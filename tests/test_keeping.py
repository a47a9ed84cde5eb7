"""Keepers: each word of each step, in each state; letters; falls."""

import unittest

from allonetree.books import book_line, read_book
from allonetree.discs import Disc
from allonetree.errors import BadBook, BadLetter, BadLife, BadNumber, NoDisc, Unlike, UsedLife
from allonetree.keeping import Keeper
from allonetree.lettering import answers, ask_letter
from allonetree.pictures import picture
from allonetree.placing import due
from tests import plain_forms, plain_keeping
from tests.test_gates import deeds, mapped
from tests.test_looking import disc_with
from tests.values import any_values, raised

# What another keeper tells: a folder with a file in it, and a link.
FOLDER, FILE, LINK = (9, 0), (9, 1), (9, 3)
TOLD = (
    ("born", FOLDER, 1, "folder", None, "f", ""),
    ("born", FILE, 2, "file", FOLDER, "x", ""),
    ("write", (9, 2), 3, FILE, "the words", ()),
    ("born", LINK, 4, "link", None, "l", "to"),
)
MOVED = ("put", (9, 4), 5, LINK, FOLDER, "l")
WRITTEN = ("write", (9, 5), 6, FILE, "other words", ((9, 2),))
AWAY = ("gone", (9, 6), 7, LINK, (LINK, (9, 4)))
LAST = TOLD + (MOVED, WRITTEN, AWAY)


def words(step, *ends, most=500):
    """The words of a step, until one of the ends."""
    found = [step()]
    while found[-1] not in ends:
        found.append(step())
        assert len(found) < most
    return found


def idle(disc=None, life=1):
    """A keeper that mends no more, and at whose disc nothing is due."""
    keeper = Keeper(Disc() if disc is None else disc, life)
    words(keeper.place, "none")
    return keeper


def whole(keeper):
    words(keeper.look, "whole")
    return keeper


def told(keeper):
    words(whole(keeper).tell, "none")
    return keeper


def heard(keeper, *letters):
    for letter in letters:
        keeper.take(letter)
    words(keeper.hear, "none")
    return keeper


def placed(*letters):
    keeper = heard(idle(), *letters)
    words(keeper.place, "none")
    return keeper


def state(keeper):
    names = ("life", "heard", "known", "standing", "doing", "stuck", "waiting")
    return tuple(getattr(keeper, name) for name in names) + (keeper.ask(), keeper.rests(), keeper.disc.copy())


class Cases(unittest.TestCase):
    def waits(self, keeper, **said):
        """These steps tell these words, and change nothing."""
        before = state(keeper)
        for step, word in said.items():
            self.assertEqual(getattr(keeper, step)(), word)
            self.assertEqual(state(keeper), before)

    def is_read(self, keeper):
        """What is heard and known is what the book tells, as it is read once more."""
        found = plain_keeping.read_book(keeper.disc)
        self.assertEqual((keeper.heard, keeper.known), found[:2])
        self.assertEqual(read_book(keeper.disc), found)


class Beginning(Cases):
    def test_what_is_told_at_first(self):
        disc = disc_with(("file", "a", "x"))
        keeper = Keeper(disc, 1000000)
        self.assertIs(keeper.disc, disc)
        self.assertEqual((keeper.life, keeper.heard, keeper.known), (1000000, (), ()))
        self.assertEqual((keeper.standing, keeper.doing, keeper.stuck, keeper.waiting), (None, None, (), ()))
        self.assertEqual(disc.book, ("life 1000000",))
        self.assertIs(keeper.rests(), False)
        self.assertEqual(keeper.ask(), "ask")

    def test_what_the_book_tells(self):
        disc = told(idle(disc_with(("file", "a", "x")))).disc
        keeper = Keeper(life=2, disc=disc)
        self.assertEqual(disc.book[-1], "life 2")
        self.assertEqual((keeper.heard, keeper.known), read_book(disc)[:2])
        self.assertEqual(keeper.ask(), "ask 1:2")

    def test_what_is_no_disc(self):
        for value in any_values():
            if not isinstance(value, Disc):
                self.assertIs(raised(NoDisc, Keeper, value, 1), value)
                self.assertIs(raised(NoDisc, Keeper, disc=value, life=None), value)

    def test_what_is_no_life(self):
        disc = Disc()
        disc.note("no line")
        for value in any_values() + [1000001, 0, "1"]:
            if not plain_forms.life(value):
                self.assertIs(raised(BadLife, Keeper, disc, value), value)
                self.assertEqual(disc.book, ("no line",))

    def test_books_that_cannot_be_read(self):
        for lines in (["x"], ["life 1", "life 0"], ["life 1", "done 1"], ["life 7", "life 7", "shift 1 item 1.0 room - -"]):
            disc = Disc()
            for line in lines:
                disc.note(line)
            # Also if the LIFE was used.
            for life in (1, 2, 7):
                self.assertEqual(raised(BadBook, Keeper, disc, life), len(lines))
            self.assertEqual(disc.book, tuple(lines))

    def test_lives_that_were_used(self):
        disc = heard(idle(life=4), deeds(*TOLD)).disc
        words(Keeper(disc, 5).place, "none")
        for life in (4, 5, 9):
            before = disc.copy()
            self.assertEqual(raised(UsedLife, Keeper, disc, life), life)
            self.assertTrue(disc == before)
        Keeper(disc, 6)
        self.assertEqual(raised(UsedLife, Keeper, disc, 6), 6)
        # On another disc the LIFE is new.
        Keeper(Disc(), 9)

    def test_a_life_that_was_not_started(self):
        # A DEED of it is heard, though no keeper started with it here.
        disc = Disc()
        disc.note(book_line(("heard", TOLD[0])))
        self.assertEqual(raised(UsedLife, Keeper, disc, 9), 9)
        Keeper(disc, 8)


class Mending(Cases):
    def broken(self):
        """A keeper fell behind the line of a shift, and another one behind a make."""
        keeper = heard(idle(), deeds(*TOLD))
        self.assertEqual([keeper.place() for _ in range(8)][-4:], ["done", "make", "made", "shift"])
        keeper.disc.make("file", "stray")
        return keeper.disc

    def test_steps(self):
        disc = self.broken()
        keeper = Keeper(disc, 2)
        ahead = keeper.known
        self.waits(keeper, look="waits", tell="none", hear="none")
        self.assertEqual(keeper.place(), "mended")
        self.assertEqual(disc.book[-1], "not 2")
        # That it was not done makes no node a stuck one.
        self.assertEqual((keeper.known, keeper.stuck, keeper.doing), (ahead, (), None))
        self.waits(keeper, look="waits", tell="none", hear="none")
        self.assertEqual((keeper.place(), disc.spot(3)), ("mended", None))
        self.waits(keeper, look="waits", tell="none", hear="none")
        # Nothing is left to be mended: so it goes on.
        self.assertEqual((keeper.place(), keeper.doing[:2]), ("shift", ("shift", 2)))
        self.is_read(keeper)

    def test_a_shift_that_was_done(self):
        keeper = heard(idle(), deeds(*TOLD))
        words(keeper.place, "shifted")
        later = Keeper(keeper.disc, 2)
        self.assertEqual(later.known[0][2], None)
        self.assertEqual((later.place(), later.known[0][2]), ("mended", (0, "f")))
        self.is_read(later)
        self.assertEqual(later.disc.book[-1], "done 1")
        self.assertEqual(later.place(), "make")

    def test_nothing_to_mend(self):
        for disc in (Disc(), disc_with(("file", "a", "x"))):
            keeper = Keeper(disc, 1)
            self.assertEqual((keeper.look(), keeper.place(), keeper.look()), ("waits", "none", "on"))

    def test_letters_and_hearing_go_on(self):
        keeper = Keeper(self.broken(), 2)
        self.assertEqual(keeper.take(deeds(MOVED, WRITTEN)), 2)
        self.assertEqual((keeper.hear(), keeper.waiting), ("heard", (WRITTEN,)))
        self.assertEqual(keeper.heard, TOLD + (MOVED,))
        self.assertEqual([keeper.place(), keeper.hear(), keeper.hear(), keeper.place()], ["mended", "heard", "none", "mended"])
        self.assertEqual(keeper.answer("ask 9:5", 3), answers(TOLD + (MOVED, WRITTEN), "ask 9:5", 3))
        self.is_read(keeper)

    def test_it_is_over_for_good(self):
        keeper = idle()
        keeper.disc.make("file", "stray")
        self.assertEqual((keeper.place(), keeper.look()), ("none", "on"))

    def test_a_fall_while_it_mends(self):
        disc = self.broken()
        for life in (2, 3):
            self.assertEqual(Keeper(disc, life).place(), "mended")
        self.assertEqual(Keeper(disc, 4).place(), "shift")


class Looking(Cases):
    def test_steps(self):
        keeper = idle(disc_with(("folder", "a"), ("file", "a/x", "one")))
        for _ in range(5):
            self.assertEqual((keeper.look(), keeper.standing), ("on", None))
            self.waits(keeper, tell="none", hear="none", place="waits")
        self.assertEqual(keeper.look(), "whole")
        self.assertEqual(keeper.standing, ((1, (0, "a"), "folder", ""), (2, (1, "x"), "file", "one")))
        self.waits(keeper, look="waits", hear="none", place="waits")

    def test_moved(self):
        keeper = idle(disc_with(("folder", "a"), ("file", "a/x", "one")))
        self.assertEqual(keeper.look(), "on")
        keeper.disc.do(("gone", "a"))
        self.assertEqual((keeper.look(), keeper.standing), ("moved", None))
        # No look is on: placing goes on, and the next look is a new one.
        self.assertEqual(keeper.place(), "none")
        self.assertEqual(words(keeper.look, "whole"), ["on"] * 3 + ["whole"])
        self.assertEqual(keeper.standing, ())

    def test_an_empty_standing_is_told_to_its_end(self):
        keeper = whole(idle())
        self.assertEqual(keeper.standing, ())
        self.waits(keeper, look="waits", place="waits")
        self.assertEqual((keeper.tell(), keeper.standing, keeper.tell()), ("done", None, "none"))

    def test_letters_come_in_and_are_heard(self):
        keeper = idle(disc_with(("file", "y", "")))
        keeper.look()
        keeper.take(deeds(*TOLD))
        self.assertEqual(words(keeper.hear, "none"), ["heard"] * 4 + ["none"])
        self.waits(keeper, place="waits", tell="none")
        self.assertEqual(words(keeper.look, "whole"), ["on"] * 2 + ["whole"])


class Telling(Cases):
    def two_told(self):
        keeper = whole(idle(disc_with(("folder", "a"), ("file", "a/x", "one"), ("link", "l", "to"))))
        self.assertEqual([keeper.tell() for _ in range(2)], ["told", "told"])
        return keeper

    def test_steps(self):
        keeper = self.two_told()
        self.assertEqual(len(keeper.heard), 2)
        self.is_read(keeper)
        self.assertEqual(len(keeper.standing), 3)
        self.waits(keeper, look="waits", place="waits", hear="none")
        self.assertEqual([keeper.tell() for _ in range(4)], ["told", "told", "done", "none"])
        self.assertEqual(keeper.standing, None)
        self.assertEqual(keeper.heard, tuple(one[0] for one in plain_keeping.told((), 1, (), plain_keeping.standing(keeper.disc))))
        self.assertIs(keeper.rests(), True)
        self.is_read(keeper)

    def test_one_line_each(self):
        keeper = self.two_told()
        lines = len(keeper.disc.book)
        keeper.tell()
        self.assertEqual(len(keeper.disc.book), lines + 1)
        self.assertTrue(keeper.disc.book[-1].startswith("told 3 item 1.2 at 0 l - 1.2 | born 1.2 3 link root l =to"))

    def test_what_comes_by_letters_meanwhile(self):
        keeper = self.two_told()
        keeper.take(deeds(*TOLD))
        self.assertEqual([keeper.hear(), keeper.hear(), keeper.tell()], ["heard", "heard", "told"])
        # Its stamp is above those of all that was heard: here 1 and 2 were told, and 1 and 2 heard.
        self.assertEqual(keeper.heard[2], ("born", (1, 2), 3, "link", None, "l", "to"))
        self.assertEqual([keeper.hear(), keeper.hear(), keeper.tell(), keeper.tell()], ["heard", "heard", "told", "done"])
        self.assertEqual(keeper.heard[3], ("write", (1, 3), 5, (1, 1), "one", ()))
        self.is_read(keeper)

    def test_rows_without_a_deed(self):
        # A file was made here, and taken away ahead of its text being told.
        keeper = whole(idle(disc_with(("file", "a", "x"))))
        keeper.tell()
        disc = keeper.disc
        later = Keeper(disc, 2)
        disc.do(("gone", "a"))
        words(later.place, "none")
        self.assertEqual(words(whole(later).tell, "none"), ["told", "done", "none"])
        self.assertEqual(disc.book[-1], "rows 1 -")
        self.assertEqual((len(later.heard), later.known), (1, ()))

    def test_a_fall_ahead_of_the_end(self):
        keeper = self.two_told()
        keeper.disc.do(("file", "a/x", "two"))
        later = idle(keeper.disc, 2)
        told(later)
        self.assertEqual([deed[:2] for deed in later.heard[2:]], [("born", (2, 0)), ("write", (2, 1))])
        self.assertEqual(later.heard[3][4], "two")


class Acts(Cases):
    def test_make(self):
        keeper = heard(idle(), deeds(TOLD[3][:1] + ((9, 0),) + TOLD[3][2:]))
        lines = len(keeper.disc.book)
        self.assertEqual((keeper.place(), keeper.doing), ("make", ("make", ("item", (9, 0)), "link", "to")))
        self.assertEqual((len(keeper.disc.book), keeper.known, keeper.disc.spot(1)), (lines, (), (None, "link", "to", 0)))
        self.waits(keeper, look="waits", tell="none", hear="none")
        self.assertEqual((keeper.place(), keeper.doing), ("made", None))
        self.assertEqual(keeper.known, ((1, ("item", (9, 0)), None, None, ((9, 0),)),))
        self.assertEqual(len(keeper.disc.book), lines + 1)
        self.is_read(keeper)

    def test_make_by_what_was_heard_when_it_was_begun(self):
        keeper = placed(deeds(*TOLD))
        heard(keeper, deeds(MOVED, WRITTEN))
        self.assertEqual(words(keeper.place, "make")[:5], ["shift", "shifted", "done", "drop", "dropped"])
        self.assertEqual(keeper.doing, ("make", ("item", FILE), "file", "other words"))
        keeper.take(deeds(("put", (8, 0), 9, FILE, None, "y"), ("write", (8, 1), 10, FILE, "newer", ((9, 5),))))
        words(keeper.hear, "none")
        self.assertEqual(keeper.place(), "made")
        row = [row for row in keeper.known if row[1] == ("item", FILE)][0]
        self.assertEqual(row[2:], (None, (9, 5), (FILE,)))
        # So what it shows is heard, and it can be dropped.
        self.assertEqual([keeper.place(), keeper.place()], ["drop", "dropped"])
        self.is_read(keeper)

    def test_shift(self):
        keeper = heard(idle(), deeds(*TOLD[:1]))
        words(keeper.place, "made")
        row = keeper.known[0]
        self.assertEqual((keeper.place(), keeper.doing), ("shift", ("shift", 1, None, (0, "f"))))
        self.assertEqual((keeper.known, keeper.disc.rows()), ((row,), ()))
        self.waits(keeper, look="waits", tell="none")
        self.assertEqual((keeper.place(), keeper.disc.rows()), ("shifted", (("f", "folder", ""),)))
        self.assertEqual((keeper.known, keeper.doing[0]), ((row,), "shift"))
        self.waits(keeper, look="waits", tell="none")
        self.assertEqual((keeper.place(), keeper.doing), ("done", None))
        self.assertEqual(keeper.known, (row[:2] + ((0, "f"),) + row[3:],))
        self.assertEqual(keeper.disc.book[-2:], ("shift 1 item 9.0 at 0 f - 9.0", "done 1"))
        self.is_read(keeper)

    def test_stuck(self):
        keeper = heard(idle(), deeds(*TOLD[:1]))
        words(keeper.place, "shift")
        keeper.disc.do(("file", "F", "theirs"))
        self.assertEqual((keeper.place(), keeper.stuck), ("stuck", ()))
        self.waits(keeper, look="waits", tell="none")
        ahead = keeper.known
        self.assertEqual((keeper.place(), keeper.doing, keeper.stuck, keeper.known), ("not", None, (1,), ahead))
        self.assertEqual(keeper.disc.book[-1], "not 1")
        # It's due no more until a look was whole.
        self.assertEqual(keeper.place(), "none")
        self.assertIs(keeper.rests(), False)
        self.assertEqual((keeper.look(), keeper.stuck), ("on", (1,)))
        keeper.disc.do(("gone", "f"))
        self.assertEqual((keeper.look(), words(keeper.look, "moved", "whole")[-1], keeper.stuck), ("on", "moved", (1,)))
        self.assertEqual(keeper.place(), "none")
        self.assertEqual((words(keeper.look, "whole")[-1], keeper.stuck), ("whole", ()))
        self.assertEqual(words(keeper.tell, "none"), ["done", "none"])
        self.assertEqual(words(keeper.place, "none"), ["shift", "shifted", "done", "none"])
        self.is_read(keeper)

    def test_several_stuck(self):
        keeper = heard(idle(), deeds(*[("born", (9, at), 1 + at, "folder", None, name, "") for at, name in enumerate("abc")]))
        for name in "abc":
            keeper.disc.do(("file", name.upper(), ""))
        self.assertEqual(words(keeper.place, "none").count("not"), 3)
        # The programs' files have lesser numbers or greater ones, as they came.
        self.assertEqual(keeper.stuck, tuple(row[0] for row in keeper.known))
        self.assertEqual(len(keeper.stuck), 3)

    def test_a_shift_out_of_its_place(self):
        keeper = placed(deeds(*TOLD))
        heard(keeper, deeds(MOVED))
        link = [row for row in keeper.known if row[1] == ("item", LINK)][0]
        self.assertEqual((keeper.place(), keeper.doing), ("shift", ("shift", link[0], (0, "l"), None)))
        # A program moves it on: so it is stuck, and stays where it is.
        keeper.disc.do(("move", "l", "m"))
        ahead = keeper.known
        self.assertEqual([keeper.place(), keeper.place(), keeper.stuck], ["stuck", "not", (link[0],)])
        self.assertEqual(keeper.known, ahead)
        self.assertEqual(keeper.disc.rows()[-1], ("m", "link", "to"))
        self.is_read(keeper)

    def test_drop(self):
        keeper = placed(deeds(*TOLD))
        heard(keeper, deeds(MOVED, WRITTEN, AWAY))
        self.assertEqual(words(keeper.place, "drop")[-1], "drop")
        node = keeper.doing[1]
        self.assertEqual(keeper.disc.spot(node)[0], None)
        self.assertNotIn(node, [row[0] for row in keeper.known])
        self.assertEqual(keeper.disc.book[-1], "rows %d -" % node)
        self.waits(keeper, look="waits", tell="none")
        lines = len(keeper.disc.book)
        self.assertEqual((keeper.place(), keeper.disc.spot(node), keeper.doing), ("dropped", None, None))
        self.assertEqual(len(keeper.disc.book), lines)
        self.is_read(keeper)

    def test_show(self):
        keeper = placed(deeds(*TOLD))
        # The same text, written by somebody who had seen it.
        heard(keeper, deeds(("write", (8, 0), 5, FILE, "the words", ((9, 2),))))
        lines, node = len(keeper.disc.book), [row for row in keeper.known if row[1] == ("item", FILE)][0][0]
        self.assertEqual(due(keeper.heard, keeper.known, keeper.disc, ()), ("show", node))
        self.assertEqual((keeper.place(), keeper.doing, keeper.place()), ("show", None, "none"))
        self.assertEqual(len(keeper.disc.book), lines + 1)
        self.assertEqual([row[3] for row in keeper.known if row[0] == node], [(8, 0)])
        self.is_read(keeper)

    def lying(self):
        """A keeper that took a file into the ROOM, into which a program wrote ahead of that."""
        keeper = placed(deeds(*TOLD))
        heard(keeper, deeds(("put", (8, 0), 5, FILE, None, "y"), ("write", (8, 1), 6, FILE, "newer", ((9, 2),))))
        self.assertEqual(keeper.place(), "shift")
        keeper.disc.do(("file", "f/x", "unheard of"))
        self.assertEqual([keeper.place(), keeper.place()], ["shifted", "done"])
        return keeper

    def test_tell(self):
        keeper = self.lying()
        row = [row for row in keeper.known if row[1] == ("item", FILE)][0]
        lines = len(keeper.disc.book)
        self.assertEqual(due(keeper.heard, keeper.known, keeper.disc, ()), ("tell", row[0]))
        self.assertEqual((keeper.place(), keeper.doing), ("tell", None))
        deed = ("write", (1, 0), 7, FILE, "unheard of", ((9, 2),))
        self.assertIn(deed, keeper.heard)
        self.assertEqual(len(keeper.disc.book), lines + 1)
        self.assertTrue(keeper.disc.book[-1].startswith("told "))
        self.is_read(keeper)
        # Both stand in the end, neither had seen the other one.
        words(keeper.place, "none")
        self.assertEqual(keeper.disc.rows(), picture(keeper.heard))
        self.assertEqual([row[2] for row in keeper.disc.rows() if row[1] == "file"], ["unheard of", "newer"])
        self.assertEqual(keeper.answer("ask 8:2 9:4", 1), (deeds(deed),))

    def test_what_lies_in_the_room_at_a_fall(self):
        keeper = self.lying()
        later = Keeper(keeper.disc, 2)
        self.assertEqual(later.place(), "tell")
        self.assertIn(("write", (2, 0), 7, FILE, "unheard of", ((9, 2),)), later.heard)

    def test_acts_wait_for_what_is_told_and_seen(self):
        keeper = placed(deeds(*TOLD))
        keeper.take(deeds(MOVED))
        keeper.look()
        keeper.hear()
        self.waits(keeper, place="waits")
        whole(keeper)
        self.waits(keeper, place="waits")
        self.assertEqual((keeper.tell(), keeper.place()), ("done", "shift"))


class Letters(Cases):
    def test_what_waits(self):
        keeper = idle()
        self.assertEqual([keeper.take(deeds(*LAST[2:])), keeper.waiting], [0, ()])
        self.assertEqual(keeper.take(deeds(*LAST[:2])), 7)
        self.assertEqual((keeper.waiting, keeper.heard), (LAST, ()))
        self.assertEqual(keeper.ask(), "ask 9:7")
        self.assertIs(keeper.rests(), False)
        # What waits is not answered.
        self.assertEqual(keeper.answer("ask", 5), ())
        for many in range(1, 8):
            self.assertEqual(keeper.hear(), "heard")
            self.assertEqual((keeper.heard, keeper.waiting), (LAST[:many], LAST[many:]))
            self.assertEqual(keeper.answer("ask", 9), (deeds(*LAST[:many]),))
            self.is_read(keeper)
        self.waits(keeper, hear="none")

    def test_as_they_came(self):
        keeper = idle()
        other = ("born", (3, 0), 1, "folder", None, "b", "")
        self.assertEqual([keeper.take(deeds(*TOLD)), keeper.take(deeds(other)), keeper.take(deeds(MOVED))], [4, 1, 1])
        self.assertEqual(keeper.waiting, TOLD + (other, MOVED))

    def test_again_and_again(self):
        keeper = idle()
        for letter, many in ((deeds(*TOLD), 4), (deeds(*TOLD), 0), (deeds(*LAST), 3), ("ask", 0), ("ask 1:5", 0)):
            self.assertEqual(keeper.take(letter=letter), many)
        words(keeper.hear, "none")
        self.assertEqual(keeper.take(deeds(*LAST)), 0)
        self.assertEqual(keeper.waiting, ())

    def test_what_it_told_comes_in_as_well(self):
        keeper = told(idle(disc_with(("folder", "a"))))
        self.assertEqual((keeper.ask(), keeper.waiting), ("ask 1:1", ()))
        # What waited for it comes in, and waits to be heard.
        keeper = whole(idle(disc_with(("folder", "a"))))
        put = ("put", (3, 0), 9, (1, 0), None, "b")
        self.assertEqual((keeper.take(deeds(put)), keeper.waiting), (0, ()))
        self.assertEqual((keeper.tell(), keeper.waiting), ("told", (put,)))
        self.assertEqual((keeper.tell(), keeper.hear(), keeper.place()), ("done", "heard", "shift"))

    def test_maps(self):
        keeper = heard(idle(), deeds(*TOLD))
        letter = mapped(("write", (9, 4), 5, FILE, "", ()), (9, 2), ("copy", 0, 3))
        self.assertEqual((keeper.take(letter), keeper.waiting[0][4]), (1, "the"))

    def test_errors(self):
        keeper = heard(idle(), deeds(*TOLD))
        before = state(keeper)
        for value in any_values() + ["ask ", "deeds", "map"]:
            self.assertIs(raised(BadLetter, keeper.take, value), value)
            self.assertIs(raised(BadLetter, keeper.answer, value, 5), value)
            self.assertIs(raised(BadLetter, keeper.answer, value, 0), value)
            if not plain_forms.whole(value, 1, 20):
                self.assertIs(raised(BadNumber, keeper.answer, "ask", value), value)
        self.assertIs(raised(BadNumber, keeper.answer, letter="ask", most=21), 21)
        self.assertEqual(raised(BadLetter, keeper.answer, deeds(*TOLD), 5), deeds(*TOLD))
        unlike = TOLD[1][:5] + ("y", "")
        self.assertEqual(raised(Unlike, keeper.take, deeds(TOLD[0], unlike)), FILE)
        self.assertEqual(state(keeper), before)

    def test_unlike_beside_what_waits(self):
        keeper = idle()
        keeper.take(deeds(*TOLD[1:]))
        unlike = TOLD[1][:5] + ("y", "")
        self.assertEqual(raised(Unlike, keeper.take, deeds(unlike)), FILE)
        self.assertEqual(keeper.waiting, ())

    def test_a_fall_forgets_what_waits(self):
        keeper = idle()
        keeper.take(deeds(*TOLD))
        keeper.hear()
        later = Keeper(keeper.disc, 2)
        self.assertEqual((later.waiting, later.heard, later.ask()), ((), TOLD[:1], "ask 9:1"))
        self.assertEqual(later.take(deeds(*TOLD)), 3)

    def test_two_that_answer_each_other(self):
        one = told(idle(disc_with(("folder", "a"), ("file", "a/x", "some long words"), ("link", "l", "to"))))
        other = told(idle(disc_with(("file", "A", "other"), ("folder", "b")), 2))
        for lap in range(99):
            for keeper, sender in ((one, other), (other, one)):
                for letter in sender.answer(keeper.ask(), 1 + lap % 3):
                    keeper.take(letter)
                words(keeper.hear, "none")
                words(keeper.place, "none")
                told(keeper)
                words(keeper.place, "none")
            if one.heard == other.heard:
                break
        self.assertLess(lap, 5)
        for keeper in (one, other):
            self.assertIs(keeper.rests(), True)
            self.assertEqual(keeper.disc.rows(), picture(one.heard))
            self.assertEqual(keeper.ask(), ask_letter(one.heard))
        self.assertEqual(len(one.disc.rows()), 5)


class Resting(Cases):
    def test_each_thing_that_is_left(self):
        self.assertIs(Keeper(Disc(), 1).rests(), False)
        self.assertIs(idle().rests(), True)
        # A look that is on does not count; what it saw does.
        keeper = idle()
        keeper.look()
        self.assertIs(keeper.rests(), True)
        self.assertIs(whole(keeper).rests(), False)
        keeper.tell()
        self.assertIs(keeper.rests(), True)
        keeper.take(deeds(*TOLD))
        self.assertIs(keeper.rests(), False)
        words(keeper.hear, "none")
        self.assertIs(keeper.rests(), False)
        while keeper.place() != "none":
            self.assertIs(keeper.rests(), keeper.doing is None and keeper.disc.rows() == picture(TOLD))
        self.assertIs(keeper.rests(), True)

    def test_what_is_stuck_is_due_all_the_same(self):
        keeper = heard(idle(), deeds(*TOLD[:1]))
        keeper.disc.do(("link", "f", ""))
        words(keeper.place, "none")
        self.assertEqual((keeper.stuck != (), keeper.rests()), (True, False))

    def test_what_programs_did_and_nobody_saw(self):
        keeper = idle()
        keeper.disc.do(("file", "a", ""))
        self.assertIs(keeper.rests(), True)
