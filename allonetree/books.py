"""A disc's book: its lines, what it tells behind a fall, and what is mended then."""

from allonetree.booked import is_booked, line_of, read_line
from allonetree.checks import check_disc
from allonetree.errors import BadBook, BadBooked
from allonetree.hearing import ascending
from allonetree.placing import is_still
from allonetree.telling import change_rows


def book_line(booked):
    """The line that tells it."""
    if not is_booked(booked):
        raise BadBooked(booked)
    return line_of(booked)


def read_book(disc):
    """(HEARD, KNOWN, the ROW of a shift that is open or None) behind all lines."""
    check_disc(disc)
    return reader_of(disc).all_told()


def mending(disc):
    """The next small step at a start, None if there is none."""
    _, known, shift = read_book(disc)
    return mending_of(known, shift, disc)


def reader_of(disc):
    """What all lines of the disc's book tell."""
    reader = BookReader()
    for number, line in enumerate(disc.book, start=1):
        booked = read_line(line)
        if booked is None or not reader.can_take(booked):
            raise BadBook(number)
        reader.take_in(booked)
    return reader


def mending_of(known, shift, disc):
    """What mending tells by what is known, and by the ROW of an open shift (None: none is)."""
    if shift is not None:
        word = "done" if is_still(shift, disc) else "not"
        return ("line", line_of((word, shift[0])))
    rows = {row[0]: row for row in known}
    for node in disc.room():
        if node not in rows and not disc.held(node):
            return ("drop", node)
    return None


class BookReader:
    """What the lines so far tell."""

    def __init__(self):
        # The LIVES with which keepers started.
        self.lives = {}
        self._deeds = {}
        # How many DEEDS of each LIFE there are, and the stamp of the last one.
        self._last = {}
        self._row_of = {}
        self._shift = None

    def can_take(self, booked):
        word, worth = booked[0], booked[1]
        if word == "heard":
            return self._hears(worth)
        if word == "told":
            return self._has(worth) and self._hears(booked[2])
        if word == "rows":
            return self._has(worth)
        if word == "shift":
            return self._shift is None and worth[0] in self._row_of
        if word in ("done", "not"):
            return self._shift is not None and worth == self._shift[0]
        return True

    def take_in(self, booked):
        word, worth = booked[0], booked[1]
        if word == "life":
            self.lives[worth] = True
        if word in ("told", "rows"):
            change_rows(self._row_of, worth)
        if word in ("told", "heard"):
            deed = booked[-1]
            self._deeds[deed[1]] = deed
            self._last[deed[1][0]] = (deed[1][1] + 1, deed[2])
        if word == "done":
            self._row_of[worth] = self._shift
        if word in ("done", "not"):
            self._shift = None
        if word == "shift":
            self._shift = worth

    def all_told(self):
        known = tuple([self._row_of[node] for node in sorted(self._row_of)])
        return (ascending(self._deeds), known, self._shift)

    def _hears(self, deed):
        """Whether the DEED is the next one of its LIFE."""
        many, stamp = self._last.get(deed[1][0], (0, 0))
        return deed[1][1] == many and deed[2] > stamp

    def _has(self, changes):
        """Whether each node that loses its ROW has one."""
        return all([row is not None or node in self._row_of for node, row in changes])
