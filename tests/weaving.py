"""A world woven by chance: programs' deeds, steps, letters late, twice or never, falls, backups."""

from allonetree.errors import Fallen, NoBackup, Refused, Running
from allonetree.worlds import World
from tests import plain_worlds
from tests.hands import some_act

STEPS = ("look", "look", "look", "tell", "tell", "hear", "place", "place")
KEPT = ("life", "heard", "known", "standing", "doing", "stuck", "waiting")


def told(keeper):
    """All that a keeper tells of itself."""
    if keeper is None:
        return None
    return tuple(getattr(keeper, name) for name in KEPT) + (keeper.ask(), keeper.rests())


def state(world):
    """All that a world tells, its discs by themselves."""
    names = world.names
    keepers = [told(world.keeper_of(name)) for name in names]
    return (names, world.letters, [world.disc_of(name).copy() for name in names], keepers, world.alike())


class Weaver:
    """Draws one thing to do after the other, and does it; plain: a second world at which it is done as well."""

    def __init__(self, chance, names=None, plain=False):
        self.chance = chance
        self.world = World(names or tuple("abcd"[: chance.randint(1, 4)]))
        self.plain = plain_worlds.World(self.world.names) if plain else None
        self.life = 0
        # What the last thing that was drawn told.
        self.last = None
        # How often another machine's program does the same.
        self.mimic = 0.2
        if chance.random() < 0.8:
            self.all_run()

    def do(self, word, *given):
        """Does it, at both worlds; what it returned, or the error that it raised."""
        try:
            found = getattr(self.world, word)(*given)
        except (Refused, Running, Fallen, NoBackup) as error:
            return error
        if self.plain is not None:
            if word == "program":
                self.plain.discs[given[0]].do(given[1])
            elif getattr(self.plain, word)(*given) != found:
                raise AssertionError((word, given))
        return found

    def start(self, name):
        self.life += 1
        return ("start", name, self.life)

    def weave(self, many):
        """Does so many things, one behind the other, with programs' deeds between; yields behind each."""
        for _ in range(many):
            for act in self.draw():
                self.last = self.do(*act)
                yield act, self.last
                if self.chance.random() < 0.05:
                    act = self.program(self.chance.choice(self.world.names))
                    yield act, self.do(*act)

    def program(self, name):
        return ("program", name, some_act(self.chance, self.world.disc_of(name)))

    def draw(self):
        """The next things to do: words of the world, and what is handed to them."""
        chance = self.chance
        name, lot = chance.choice(self.world.names), chance.random()
        if lot < 0.25:
            for _ in range(chance.randint(2, 12)):
                act = self.program(name)
                yield act
                if chance.random() < self.mimic:
                    yield ("program", chance.choice(self.world.names), act[2])
        elif lot < 0.3:
            for _ in range(chance.randint(1, 15)):
                yield ("step", name, chance.choice(STEPS))
        elif lot < 0.5:
            yield from self.steps(name, "look", "whole", "waits")
            yield from self.steps(name, "tell", "none")
        elif lot < 0.85:
            yield from self.exchange(name)
            yield from self.steps(name, "hear", "none")
            yield from self.steps(name, "place", "none", "waits")
        elif lot < 0.97:
            yield from self.luck(name, lot)
        elif self.world.letters:
            for _ in range(4):
                yield ("deliver", chance.randrange(len(self.world.letters)))

    def steps(self, name, word, *ends):
        """Steps to one of the ends, mostly; some more of them."""
        yield ("step", name, word)
        while self.last not in ends and self.chance.random() < 0.97 and self.world.keeper_of(name) is not None:
            if self.last == "shift" and self.chance.random() < 0.3:
                yield from self.spite(name)
            if word == "place" and self.chance.random() < 0.05:
                yield ("fall", name)
                yield self.start(name)
            yield ("step", name, word)

    def spite(self, name):
        """A program writes to what is just to be shifted out of its place."""
        disc, node = self.world.disc_of(name), self.world.keeper_of(name).doing[1]
        for path in [row[0] for row in disc.nodes() if row[1] == node]:
            yield ("program", name, ("file", path, "spite %d" % self.chance.randint(0, 99)))

    def exchange(self, name):
        """Letters that ask, and those that answer; some are lost, or come later."""
        first = len(self.world.letters)
        yield ("ask", name)
        for _ in range(2):
            behind = len(self.world.letters)
            for number in range(first, behind):
                if self.chance.random() < 0.8:
                    yield ("deliver", number)
            first = behind

    def luck(self, name, lot):
        if lot < 0.9:
            yield ("fall", name)
        if lot < 0.93:
            yield self.start(name)
        elif lot < 0.95:
            yield ("save", name)
        elif lot < 0.96:
            yield ("fall", name)
            yield ("back", name)
            yield self.start(name)
        else:
            yield ("round",)

    def all_run(self):
        for name in self.world.names:
            if self.world.keeper_of(name) is None:
                self.do(*self.start(name))
