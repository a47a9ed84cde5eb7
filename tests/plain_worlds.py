"""Keepers and worlds, thought of once more: all that a keeper knows is read from its book at each step."""

from allonetree.discs import Disc
from allonetree.mapping import map_of
from tests import plain_heard, plain_keeping, plain_letters


class Keeper:
    def __init__(self, disc, life):
        self.disc, self.life = disc, life
        self.was_read = (0, ((), (), None))
        self.gate = plain_letters.Gate(self.heard)
        disc.note("life %d" % life)
        self.mending = True
        self.standing, self.doing, self.stuck, self.waiting = None, None, (), ()
        # The generators of a look, and of the steps of an act.
        self.looking, self.acting = None, None

    def read(self):
        # Line by line, each of them once: none of them ever changes.
        many, told = self.was_read
        for text in self.disc.book[many:]:
            told = plain_keeping.read_on(told, text)
        self.was_read = (len(self.disc.book), told)
        return told

    @property
    def heard(self):
        return self.read()[0]

    @property
    def known(self):
        return self.read()[1]

    def look(self):
        if self.mending or self.standing is not None or self.doing is not None:
            return "waits"
        if self.looking is None:
            self.looking = plain_keeping.look(self.disc)
        word = next(self.looking)
        if word != "on":
            self.looking = None
        if isinstance(word, tuple):
            word, self.standing = word
            self.stuck = ()
        return word

    def tell(self):
        if self.standing is None:
            return "none"
        found = plain_keeping.first_told(self.heard, self.life, self.known, self.standing)
        if found is None:
            self.standing = None
            return "done"
        self.note_told(found)
        return "told"

    def hear(self):
        if self.waiting == ():
            return "none"
        self.disc.note(plain_keeping.line(("heard", self.waiting[0])))
        self.waiting = self.waiting[1:]
        return "heard"

    def place(self):
        if self.mending:
            step = plain_keeping.mending(self.disc)
            if step is not None:
                self.disc.note(step[1]) if step[0] == "line" else self.disc.drop(step[1])
                return "mended"
            self.mending = False
        if self.looking is not None or self.standing is not None:
            return "waits"
        if self.doing is None:
            self.doing = plain_keeping.due(self.heard, self.known, self.disc, self.stuck)
            if self.doing is None:
                return "none"
            self.acting = getattr(self, "act_" + self.doing[0])(*self.doing[1:])
        word = next(self.acting)
        if word in ("show", "tell", "dropped", "made", "done", "not"):
            self.doing = None
        return word

    def act_show(self, node):
        self.note_row(node, self.row(node)[:3] + plain_heard.shows(self.heard, self.row(node)[1]))
        yield "show"

    def act_tell(self, node):
        row, spot = self.row(node), self.disc.spot(node)
        self.note_told(plain_keeping.first_told(self.heard, self.life, (row,), ((node,) + spot[:3],)))
        yield "tell"

    def act_drop(self, node):
        self.note_row(node, None)
        yield "drop"
        self.disc.drop(node)
        yield "dropped"

    def act_make(self, key, kind, text):
        shows = plain_heard.shows(self.heard, key)
        node = self.disc.make(kind, text)
        yield "make"
        self.note_row(node, (node, key, None) + shows)
        yield "made"

    def act_shift(self, node, place, goal):
        row = self.row(node)
        shows = row[3:] if goal is None else plain_heard.shows(self.heard, row[1])
        self.disc.note(plain_keeping.line(("shift", row[:2] + (goal,) + shows)))
        yield "shift"
        done = self.disc.shift(node, place, goal)
        yield "shifted" if done else "stuck"
        self.disc.note(plain_keeping.line(("done" if done else "not", node)))
        if not done:
            self.stuck = tuple(sorted(self.stuck + (node,)))
        yield "done" if done else "not"

    def row(self, node):
        return [row for row in self.known if row[0] == node][0]

    def note_row(self, node, row):
        self.disc.note(plain_keeping.line(("rows", ((node, row),))))

    def note_told(self, found):
        deed, changes = found
        if deed is None:
            self.disc.note(plain_keeping.line(("rows", changes)))
            return
        self.disc.note(plain_keeping.line(("told", changes, deed)))
        self.waiting += self.gate.hear(deed)[1:]

    def ask(self):
        return plain_letters.ask_letter(self.gate.heard)

    def answer(self, letter, most):
        return plain_letters.answers(self.heard, letter, most, map_of)

    def take(self, letter):
        came = self.gate.take(letter)
        self.waiting += came
        return len(came)

    def rests(self):
        if self.mending or self.standing is not None or self.doing is not None or self.waiting:
            return False
        return plain_keeping.due(self.heard, self.known, self.disc, ()) is None


class World:
    """Discs, keepers and letters by names; errors are not thought of."""

    def __init__(self, names):
        self.names = names
        self.discs = {name: Disc() for name in names}
        self.keepers = {name: None for name in names}
        self.saved = {}
        self.letters = ()

    def start(self, name, life):
        self.keepers[name] = Keeper(self.discs[name], life)

    def fall(self, name):
        self.keepers[name] = None

    def step(self, name, word):
        return getattr(self.keepers[name], word)()

    def send(self, *letter):
        self.letters += (letter,)

    def ask(self, name):
        first = len(self.letters)
        for other in self.names:
            if other != name:
                self.send(name, other, self.keepers[name].ask())
        return tuple(range(first, len(self.letters)))

    def deliver(self, number):
        sender, name, text = self.letters[number]
        if self.keepers[name] is None:
            return "lost"
        if text[:3] != "ask":
            self.keepers[name].take(text)
            return "taken"
        for answer in self.keepers[name].answer(text, 5):
            self.send(name, sender, answer)
        return "answered"

    def save(self, name):
        self.saved[name] = self.discs[name].copy()

    def back(self, name):
        self.discs[name] = self.saved[name].copy()

    def until(self, name, word, *ends):
        for _ in range(10**6):
            said = self.step(name, word)
            if said in ends:
                return said

    def round(self):
        running = [name for name in self.names if self.keepers[name] is not None]
        ahead = self.told(running)
        for name in running:
            ended = self.until(name, "place", "none", "waits")
            self.until(name, "tell", "none")
            for _ in range(2 if ended == "waits" else 1):
                self.until(name, "look", "whole")
                self.until(name, "tell", "none")
            self.until(name, "hear", "none")
        asks = [number for name in running for number in self.ask(name)]
        for number in asks:
            self.deliver(number)
        for number in range(asks[-1] + 1 if asks else 0, len(self.letters) if asks else 0):
            self.deliver(number)
        for name in running:
            self.until(name, "hear", "none")
        for name in running:
            self.until(name, "place", "none")
        return self.told(running) - ahead

    def told(self, names):
        lines = [line for name in names for line in self.discs[name].book]
        return len([line for line in lines if line.startswith("told ")])

    def rest(self):
        for many in range(1, 10**6):
            ahead = [keeper and keeper.heard for keeper in self.keepers.values()]
            self.round()
            if ahead == [keeper and keeper.heard for keeper in self.keepers.values()]:
                return many
