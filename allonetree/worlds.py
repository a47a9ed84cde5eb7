"""A world: machines with discs, programs, keepers, letters, falls and backups, woven at will."""

from allonetree.books import reader_of
from allonetree.checks import check_life
from allonetree.discs import Disc
from allonetree.errors import BadNames, BadNumber, BadWord, Fallen, NoBackup, NoMachine, Running, UsedLife
from allonetree.forms import is_integer, is_name, small
from allonetree.hearing import counts
from allonetree.keeping import Keeper

MOST_MACHINES = 4
# How many DEEDS the letters that answer have at most.
MOST_ANSWERED = 5
WORDS = ("look", "tell", "hear", "place")


class Machine:
    """A disc, the keeper that runs at it, or None, and the copy that is kept of it, or None."""

    def __init__(self):
        self.drive = Disc()
        self.runner = None
        # Never changed, only replaced: so copies of the world share it.
        self.saved = None

    def twin(self):
        other = Machine()
        other.drive = self.drive.copy()
        other.runner = None if self.runner is None else self.runner.twin(other.drive)
        other.saved = self.saved
        return other


class World:
    """A machine for each of the names; no keeper runs at first."""

    def __init__(self, names):
        if not is_names(names):
            raise BadNames(names)
        self._names = names
        self._machines = {name: Machine() for name in names}
        # (from, to, text) of all letters that were sent.
        self._letters = []
        # The LIVES that were started.
        self._used = {}

    @property
    def names(self):
        return self._names

    @property
    def letters(self):
        return tuple(self._letters)

    def program(self, name, act):
        """A program's deed on the machine's disc."""
        self._machine(name).drive.do(act)

    def start(self, name, life):
        """A keeper of this LIFE runs there from now on."""
        machine = self._machine(name)
        if machine.runner is not None:
            raise Running(name)
        check_life(life)
        # A book that can't be read is told of ahead of a LIFE that was used.
        reader_of(machine.drive)
        if life in self._used:
            raise UsedLife(life)
        machine.runner = Keeper(machine.drive, life)
        self._used[life] = True

    def fall(self, name):
        """The keeper there runs no more."""
        self._keeper(name)
        machine = self._machine(name)
        machine.runner = None

    def step(self, name, word):
        """What a step of the keeper there tells."""
        keeper = self._keeper(name)
        if word not in WORDS:
            raise BadWord(word)
        return step_of(keeper, word)

    def ask(self, name):
        """The numbers of the letters by which the keeper there asks all others."""
        text = self._keeper(name).ask()
        first = len(self._letters)
        for other in self._names:
            if other != name:
                self._send(name, other, text)
        return tuple(range(first, len(self._letters)))

    def deliver(self, number):
        """The letter comes to its machine: "lost", "answered" or "taken"."""
        if not is_integer(number) or not 0 <= number < len(self._letters):
            raise BadNumber(number)
        sender, name, text = self._letters[number]
        keeper = self._machines[name].runner
        if keeper is None:
            return "lost"
        if is_ask(text):
            for answer in keeper.answer(text, MOST_ANSWERED):
                self._send(name, sender, answer)
            return "answered"
        keeper.take(text)
        return "taken"

    def save(self, name):
        """Keeps a copy of the disc there."""
        machine = self._machine(name)
        machine.saved = machine.drive.copy()

    def back(self, name):
        """Puts the disc there back to what was kept."""
        machine = self._machine(name)
        if machine.runner is not None:
            raise Running(name)
        if machine.saved is None:
            raise NoBackup(name)
        machine.drive = machine.saved.copy()

    def disc_of(self, name):
        return self._machine(name).drive

    def keeper_of(self, name):
        return self._machine(name).runner

    def rows(self, name):
        return self._machine(name).drive.rows()

    def alike(self):
        """Whether all folders are the same."""
        rows = [self.rows(name) for name in self._names]
        return all([one == rows[0] for one in rows])

    def copy(self):
        other = World(self._names)
        other._machines = {name: self._machines[name].twin() for name in self._names}
        other._letters = list(self._letters)
        other._used = dict(self._used)
        return other

    def round(self):
        """A whole round; how many DEEDS were told in it."""
        running = [name for name in self._names if self._machines[name].runner is not None]
        keepers = [self._machines[name].runner for name in running]
        ahead = sum([told_by(keeper) for keeper in keepers])
        for keeper in keepers:
            work(keeper)
        first = len(self._letters)
        for name in running:
            self.ask(name)
        self._deliver_from(first)
        for keeper in keepers:
            step_until(keeper, "hear", ("none",))
        for keeper in keepers:
            step_until(keeper, "place", ("none",))
        return sum([told_by(keeper) for keeper in keepers]) - ahead

    def rest(self):
        """Rounds, until one by which nobody hears anything new; how many."""
        many, ahead = 0, None
        while ahead != self._heard_so_far():
            ahead = self._heard_so_far()
            self.round()
            many += 1
        return many

    def _machine(self, name):
        if not isinstance(name, str) or name not in self._machines:
            raise NoMachine(name)
        return self._machines[name]

    def _keeper(self, name):
        keeper = self._machine(name).runner
        if keeper is None:
            raise Fallen(name)
        return keeper

    def _send(self, name, other, text):
        self._letters.append((name, other, text))

    def _deliver_from(self, first):
        """The letters from this number on that ask, and then the answers to them."""
        for _ in range(2):
            behind = len(self._letters)
            for number in range(first, behind):
                self.deliver(number)
            first = behind

    def _heard_so_far(self):
        """How much each keeper has heard: nobody hears less in time."""
        runners = [self._machines[name].runner for name in self._names]
        return [len(keeper.heard) for keeper in runners if keeper is not None]


def is_names(value):
    if not isinstance(value, tuple) or not 1 <= len(value) <= MOST_MACHINES:
        return False
    return all([is_name(name) for name in value]) and len({small(name) for name in value}) == len(value)


def is_ask(text):
    return text.split(" ")[0] == "ask"


def told_by(keeper):
    """How many DEEDS the keeper has told."""
    return counts(keeper.heard).get(keeper.life, 0)


def step_of(keeper, word):
    if word == "look":
        return keeper.look()
    if word == "tell":
        return keeper.tell()
    return keeper.hear() if word == "hear" else keeper.place()


def step_until(keeper, word, ends):
    """Such steps until one tells one of the ends; which one."""
    said = step_of(keeper, word)
    while said not in ends:
        said = step_of(keeper, word)
    return said


def work(keeper):
    """What a keeper does in a round ahead of its letters."""
    ended = step_until(keeper, "place", ("none", "waits"))
    step_until(keeper, "tell", ("none",))
    look_and_tell(keeper)
    if ended == "waits":
        # A look that was on may have missed what programs did meanwhile.
        look_and_tell(keeper)
    step_until(keeper, "hear", ("none",))


def look_and_tell(keeper):
    step_until(keeper, "look", ("whole",))
    step_until(keeper, "tell", ("none",))
