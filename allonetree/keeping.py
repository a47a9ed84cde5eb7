"""A keeper: looks at one disc, tells, hears and places, one small step at a time."""

from allonetree.booked import line_of, read_line
from allonetree.books import mending_of, reader_of
from allonetree.checks import check_disc, check_life
from allonetree.discs import Disc
from allonetree.errors import UsedLife
from allonetree.hearing import counts, heard_with
from allonetree.lettering import Gate, answers
from allonetree.looking import Look
from allonetree.placing import Wanted, due_of, row_of
from allonetree.telling import known_with, told_of


class Keeper:
    """Begins by what its disc's book tells, and mends first."""

    def __init__(self, disc, life):
        check_disc(disc)
        check_life(life)
        reader = reader_of(disc)
        self._heard, self._known, self._open = reader.all_told()
        if life in reader.lives or life in counts(self._heard):
            raise UsedLife(life)
        self._disc, self._life = disc, life
        self._gate = Gate(self._heard)
        self._mending = True
        # The Look that is on, and what the last whole one saw, until it is told.
        self._on = None
        self._standing = None
        self._stuck = ()
        self._waiting = ()
        # The act that is begun, how many of its steps were done, its ROW, and
        # whether its shift was done.
        self._doing = None
        self._steps = 0
        self._row = None
        self._was_done = False
        # What is worked out, as long as what was heard stays the same: what is
        # wanted, and what is left to be told of the standing.
        self._wanted = None
        self._untold = None
        self._note(("life", life))

    @property
    def disc(self):
        return self._disc

    @property
    def life(self):
        return self._life

    @property
    def heard(self):
        return self._heard

    @property
    def known(self):
        return self._known

    @property
    def standing(self):
        return self._standing

    @property
    def doing(self):
        return self._doing

    @property
    def stuck(self):
        return self._stuck

    @property
    def waiting(self):
        return self._waiting

    def look(self):
        """One step of a look."""
        if self._mending or self._standing is not None or self._doing is not None:
            return "waits"
        if self._on is None:
            self._on = Look(self._disc)
        word = self._on.step()
        if word == "whole":
            self._standing = self._on.standing
            self._stuck = ()
        if word != "on":
            self._on = None
        return word

    def tell(self):
        """One line of what the standing tells."""
        if self._standing is None:
            return "none"
        if self._untold is None:
            self._untold = told_of(self._heard, self._life, self._known, self._standing)
        if not self._untold:
            self._standing, self._untold = None, None
            return "done"
        # Behind each DEED what is told is what was left to be told, as long as
        # nothing else is heard.
        behind = self._untold[1:]
        self._note_told(self._untold[0])
        self._untold = behind
        return "told"

    def hear(self):
        """The line of one DEED that waits."""
        if not self._waiting:
            return "none"
        deed = self._waiting[0]
        self._waiting = self._waiting[1:]
        self._note(("heard", deed))
        return "heard"

    def place(self):
        """One step of mending, or of the act that is due."""
        if self._mending:
            step = mending_of(self._known, self._open, self._disc)
            if step is not None:
                self._mend(step)
                return "mended"
            self._mending = False
        if self._on is not None or self._standing is not None:
            return "waits"
        if self._doing is None:
            self._doing, self._steps = self._due(self._stuck), 0
        if self._doing is None:
            return "none"
        self._steps += 1
        return self._go_on()

    def ask(self):
        """The letter that asks for all that is not in at the gate."""
        return self._gate.ask()

    def answer(self, letter, most):
        """The letters that answer one that asks."""
        return answers(self._heard, letter, most)

    def take(self, letter):
        """How many DEEDS come in at the gate by the letter."""
        came = self._gate.take(letter)
        self._waiting = self._waiting + came
        return len(came)

    def rests(self):
        """Whether nothing is left to be done by what is heard and known."""
        if self._mending or self._standing is not None or self._doing is not None:
            return False
        return not self._waiting and self._due(()) is None

    def twin(self, disc):
        """A keeper that stands as this one, at a copy of its disc."""
        other = Keeper(Disc(), self._life)
        other._heard, other._known, other._open = self._heard, self._known, self._open
        other._disc = disc
        other._gate = self._gate.twin()
        other._mending = self._mending
        other._on = None if self._on is None else self._on.twin(disc)
        other._standing = self._standing
        other._stuck, other._waiting = self._stuck, self._waiting
        other._doing, other._steps = self._doing, self._steps
        other._row, other._was_done = self._row, self._was_done
        other._untold = self._untold
        return other

    def _due(self, tried):
        return due_of(self._wants(), self._known, self._disc, tried)

    def _wants(self):
        if self._wanted is None:
            self._wanted = Wanted(self._heard)
        return self._wanted

    def _row_behind(self, node):
        """The ROW of the node behind the act that is begun."""
        return row_of(self._wants(), {row[0]: row for row in self._known}, self._doing, node)

    def _mend(self, step):
        word, worth = step
        if word == "drop":
            self._disc.drop(worth)
        else:
            self._note(read_line(worth))

    def _go_on(self):
        """The next step of the act that is begun."""
        word = self._doing[0]
        if word == "make":
            return self._go_on_making()
        if word == "shift":
            return self._go_on_shifting()
        if word == "drop":
            return self._go_on_dropping()
        return self._show() if word == "show" else self._tell_alone()

    def _show(self):
        node = self._doing[1]
        self._note(("rows", ((node, self._row_behind(node)),)))
        self._doing = None
        return "show"

    def _tell_alone(self):
        node = self._doing[1]
        own = tuple([row for row in self._known if row[0] == node])
        standing = ((node,) + self._disc.spot(node)[:3],)
        self._note_told(told_of(self._heard, self._life, own, standing)[0])
        self._doing = None
        return "tell"

    def _go_on_dropping(self):
        node = self._doing[1]
        if self._steps == 1:
            # Its line comes first: a fall behind it leaves a node of which
            # nothing is known, and which mending drops.
            self._note(("rows", ((node, None),)))
            return "drop"
        self._disc.drop(node)
        self._doing = None
        return "dropped"

    def _go_on_making(self):
        if self._steps == 1:
            # What is heard until its line comes does not change its ROW: the
            # node has the TEXT that was wanted now.
            self._row = self._row_behind(self._disc.make(self._doing[2], self._doing[3]))
            return "make"
        self._note(("rows", ((self._row[0], self._row),)))
        self._doing = None
        return "made"

    def _go_on_shifting(self):
        _, node, place, goal = self._doing
        if self._steps == 1:
            self._note(("shift", self._row_behind(node)))
            return "shift"
        if self._steps == 2:
            self._was_done = self._disc.shift(node, place, goal)
            return "shifted" if self._was_done else "stuck"
        self._doing = None
        if self._was_done:
            self._note(("done", node))
            return "done"
        self._note(("not", node))
        self._stuck = tuple(sorted(self._stuck + (node,)))
        return "not"

    def _note_told(self, told):
        """The line of what was told; its DEED, if there is one, goes to the gate."""
        deed, changes = told
        if deed is None:
            self._note(("rows", changes))
            return
        self._note(("told", changes, deed))
        self._waiting = self._waiting + self._gate.hear(deed)[1:]

    def _note(self, booked):
        """Notes a line; what is heard and known is what the book tells then."""
        self._disc.note(line_of(booked))
        word, worth = booked[0], booked[1]
        if word in ("told", "heard"):
            self._heard = heard_with(self._heard, booked[-1])
            self._wanted, self._untold = None, None
        if word in ("told", "rows"):
            self._known = known_with(self._known, worth)
        if word == "shift":
            self._open = worth
        if word == "done":
            self._known = known_with(self._known, ((worth, self._open),))
        if word in ("done", "not"):
            self._open = None
