"""A keeper's work done by hand, one small step at a time, so that anything can be done in between."""

from allonetree.books import book_line, mending, read_book
from allonetree.errors import Refused
from allonetree.hearing import lacks, vector
from allonetree.looking import Look
from allonetree.placing import due, row_behind
from allonetree.telling import known_behind, told
from tests.plain_keeping import heard_with

NAMES = ("a", "A", "b", "c", "b.also1")
TEXTS = ("", "x", "y", "z | w")


def some_path(chance, disc):
    """Mostly the path of something that is there, or of something in a folder there."""
    path, _, kind, _, _ = chance.choice(disc.nodes())
    if kind == "folder" and chance.random() < 0.7:
        path = path + ("/" if path else "") + chance.choice(NAMES)
    return path.swapcase() if chance.random() < 0.2 else path


def some_act(chance, disc):
    word = chance.choice(("folder", "folder", "file", "file", "file", "link", "gone", "move", "move", "move"))
    if word in ("folder", "gone"):
        return (word, some_path(chance, disc))
    if word == "move":
        return (word, some_path(chance, disc), some_path(chance, disc))
    return (word, some_path(chance, disc), chance.choice(TEXTS))


def program(chance, disc):
    """Some deed of a program; whether it was done."""
    try:
        disc.do(some_act(chance, disc))
    except Refused:
        return False
    return True


class Hand:
    """Begins at a disc by its book; what is heard and known is what the book tells."""

    def __init__(self, disc, life):
        self.disc = disc
        self.life = life
        self.tried = ()
        self.heard, self.known, _ = read_book(disc)
        self.note(("life", life))

    def mend(self):
        """The steps of a start."""
        while True:
            step = mending(self.disc)
            if step is None:
                break
            if step[0] == "line":
                self.disc.note(step[1])
            else:
                assert self.disc.drop(step[1])
            yield step[0]
        self.heard, self.known, _ = read_book(self.disc)

    def note(self, booked):
        self.disc.note(book_line(booked))
        if booked[0] in ("told", "rows"):
            self.known = known_behind(self.known, booked[1])
        if booked[0] in ("told", "heard"):
            self.heard = heard_with(self.heard, booked[-1])

    def hear(self, other):
        """All that the other has heard and this one has not, each DEED in a line."""
        for deed in lacks(other.heard, vector(self.heard)):
            self.note(("heard", deed))
            yield "heard"

    def look(self, between=None):
        """The standing of a look, None if it was moved."""
        look = Look(self.disc)
        while look.step() == "on":
            if between is not None:
                between()
        self.tried = () if look.standing is not None else self.tried
        return look.standing

    def tell(self, standing):
        while True:
            found = told(self.heard, self.life, self.known, standing)
            if not found:
                break
            deed, changes = found[0]
            self.note(("rows", changes) if deed is None else ("told", changes, deed))
            yield "told"

    def due(self):
        return due(self.heard, self.known, self.disc, self.tried)

    def do(self, act):
        """The steps of an act, as section 12 tells them."""
        if act[0] == "make":
            heard, known = self.heard, self.known
            node = self.disc.make(act[2], act[3])
            yield "make"
            self.note(("rows", ((node, row_behind(heard, known, act, node)),)))
            yield "made"
            return
        node = act[1]
        if act[0] == "tell":
            row = [row for row in self.known if row[0] == node]
            place, kind, text, _ = self.disc.spot(node)
            ((deed, changes),) = told(self.heard, self.life, tuple(row), ((node, place, kind, text),))
            self.note(("told", changes, deed))
            yield "tell"
            return
        row = row_behind(self.heard, self.known, act, node)
        if act[0] == "shift":
            self.note(("shift", row))
            yield "shift"
            done = self.disc.shift(*act[1:])
            yield "shifted" if done else "stuck"
            self.note(("done" if done else "not", node))
            if done:
                self.known = known_behind(self.known, ((node, row),))
            else:
                self.tried += (node,)
            yield "done" if done else "not"
            return
        self.note(("rows", ((node, row),)))
        yield act[0]
        if act[0] == "drop":
            self.disc.drop(node)
            yield "dropped"

    def place(self, most=400):
        """All acts that are due, without anything in between; their words."""
        words = []
        for _ in range(most):
            act = self.due()
            if act is None:
                return words
            for _ in self.do(act):
                pass
            words.append(act[0])
        raise AssertionError("placing does not end")

    def rest(self):
        """Looks, tells and places once, without anything in between."""
        self.place()
        list(self.tell(self.look()))
        self.place()
