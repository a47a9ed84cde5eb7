"""A bench: a world under hands, told what to do by lines, with undo, redo and trials."""

from allonetree.errors import BadTask, NoBlock, NothingToRedo, NothingToUndo
from allonetree.tasks import read_task
from allonetree.worlds import World


class Block:
    """A trial that goes on."""

    def __init__(self):
        self.is_kept = False


class Bench:
    """A World of machines so called, in which nothing was done."""

    def __init__(self, names):
        # (line, the World behind it) for each deed that stands, behind one
        # without a line. No World here changes any more, and neither tuple
        # does: so copies and trials share them.
        self._stood = (("", World(names)),)
        # Likewise for what was taken back, the last one first.
        self._undone = ()
        # The innermost trial.
        self._block = None

    @property
    def names(self):
        return self._stood[0][1].names

    @property
    def deeds(self):
        return len(self._stood) - 1

    @property
    def lines(self):
        """The lines of the deeds that stand."""
        return tuple([line for line, world in self._stood[1:]])

    def __len__(self):
        return len(self._stood[-1][1].letters)

    def __eq__(self, other):
        return isinstance(other, Bench) and self._key() == other._key()

    def world(self):
        return self._stood[-1][1].copy()

    def do(self, line):
        """Does what the line tells; the answer."""
        task = read_task(line)
        if task is None:
            raise BadTask(line)
        world = self.world()
        answer = done(world, task)
        self._stood = self._stood + ((line, world),)
        self._undone = ()
        return answer

    def undo(self):
        """Takes the last deed back."""
        if len(self._stood) == 1:
            raise NothingToUndo(None)
        self._undone = self._stood[-1:] + self._undone
        self._stood = self._stood[:-1]

    def redo(self):
        """Does again what was taken back last."""
        if not self._undone:
            raise NothingToRedo(None)
        self._stood = self._stood + self._undone[:1]
        self._undone = self._undone[1:]

    def tried(self, look, *, keep=False):
        """What look returns; the bench is behind it as ahead of it, unless this is kept."""
        stood, undone, outer = self._stood, self._undone, self._block
        block = Block()
        self._block = block
        try:
            told = look(self)
            if keep is True or block.is_kept:
                stood, undone = self._stood, self._undone
        finally:
            self._stood, self._undone, self._block = stood, undone, outer
        return told

    def keep(self):
        """The innermost trial's deeds stay, if no error comes of it."""
        block = self._block
        if block is None:
            raise NoBlock(None)
        block.is_kept = True

    def copy(self):
        other = Bench(self.names)
        other._stood, other._undone = self._stood, self._undone
        return other

    def _key(self):
        return (self.names, self.lines)


def done(world, task):
    """Does the task; what the line answers."""
    word, *given = task
    action = ACTIONS[word]
    return action(world, *given)


def do_program(world, name, act):
    world.program(name, act)
    return "done"


def do_start(world, name, life):
    world.start(name, life)
    return "done"


def do_fall(world, name):
    world.fall(name)
    return "done"


def do_save(world, name):
    world.save(name)
    return "done"


def do_back(world, name):
    world.back(name)
    return "done"


def do_step(world, name, word):
    return world.step(name, word)


def do_ask(world, name):
    numbers = world.ask(name)
    return " ".join([str(number) for number in numbers]) if numbers else "none"


def do_deliver(world, number):
    return world.deliver(number)


def do_round(world):
    return str(world.round())


def do_rest(world):
    return str(world.rest())


ACTIONS = {
    "program": do_program,
    "start": do_start,
    "fall": do_fall,
    "save": do_save,
    "back": do_back,
    "step": do_step,
    "ask": do_ask,
    "deliver": do_deliver,
    "round": do_round,
    "rest": do_rest,
}
