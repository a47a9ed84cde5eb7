"""Between any two steps of a keeper: a program's deed, a letter, or a fall."""

import unittest

from allonetree.books import read_book
from allonetree.errors import Refused
from allonetree.pictures import picture
from allonetree.worlds import World
from tests.weaving import state

AHEAD = (("folder", "f"), ("file", "f/x", "one"), ("file", "f/y", "two"), ("link", "l", "to"), ("file", "z", "three"))
# What b's program does, in two runs, each of which is told.
AWAY = (("move", "z", "g"),)
DONE = (
    ("move", "g", "z"),
    ("file", "f/x", "newer"),
    ("move", "f/y", "y"),
    ("gone", "l"),
    ("folder", "g"),
    ("move", "f", "g/f"),
    ("file", "g/new", "four"),
    ("link", "k", "to"),
)
# What a's program does between two steps: what it writes is "unheard".
ACTS = (
    ("file", "f/x", "unheard"),
    ("file", "f/y", "unheard"),
    ("file", "z", "unheard"),
    ("file", "y", "unheard"),
    ("file", "G", "unheard"),
    ("file", "g/f/x", "unheard"),
    ("file", "g/f/new", "unheard"),
    ("file", "K", "unheard"),
    ("folder", "Y"),
    ("link", "g", "there"),
    ("gone", "f"),
    ("gone", "f/x"),
    ("gone", "g"),
    ("move", "f", "h"),
    ("move", "f/x", "g"),
    ("move", "f/x", "z"),
    ("move", "l", "f/l"),
    ("move", "z", "F/Z"),
    ("move", "g/f", "h"),
)


def steps(world, name, word, *ends):
    while world.step(name, word) not in ends:
        pass


def begun():
    """A world in which a has heard all that b told, and placed nothing of it."""
    world = World(("a", "b"))
    world.start("a", 1)
    world.start("b", 2)
    for act in AHEAD:
        world.program("a", act)
    world.rest()
    # Also here somebody wrote: so one text stands beside the other.
    world.program("a", ("file", "f/x", "mine"))
    for name, acts in (("a", ()), ("b", AWAY), ("b", DONE)):
        for act in acts:
            world.program(name, act)
        steps(world, name, "look", "whole")
        steps(world, name, "tell", "none")
    first = len(world.letters)
    world.ask("a")
    world.deliver(first)
    for number in range(first + 1, len(world.letters)):
        world.deliver(number)
    steps(world, "a", "hear", "none")
    return world


def texts(world, name):
    return [row[2] for row in world.rows(name) if row[1] == "file"]


class Between(unittest.TestCase):
    def setUp(self):
        self.world = begun()
        self.words = []
        world = self.world.copy()
        while self.words[-1:] != ["none"]:
            self.words.append(world.step("a", "place"))

    def behind(self, many, word="place"):
        world = self.world.copy()
        for _ in range(many):
            world.step("a", word)
        return world

    def rests(self, world):
        self.assertLess(world.rest(), 5)
        heard = world.keeper_of("a").heard
        for name in world.names:
            self.assertEqual(world.rows(name), picture(heard))
            self.assertEqual(world.keeper_of(name).heard, heard)
            self.assertEqual((heard, world.keeper_of(name).known), read_book(world.disc_of(name))[:2])

    def test_without_anything(self):
        for word in ("make", "made", "shift", "shifted", "done", "drop", "dropped", "show"):
            self.assertIn(word, self.words)
        self.rests(self.world)
        self.assertEqual(sorted(texts(self.world, "a")), ["four", "mine", "newer", "three", "two"])

    def test_a_programs_deed(self):
        met = {}
        for act in ACTS:
            for many in range(len(self.words)):
                world = self.behind(many)
                try:
                    world.program("a", act)
                except Refused:
                    continue
                met[act] = met.get(act, 0) + 1
                steps(world, "a", "place", "none")
                self.rests(world)
                found = texts(world, "b")
                if act[0] == "file":
                    self.assertEqual(found.count("unheard"), 1, (act, many))
                # What b wrote here nobody could take away but where it stood.
                if act[0] in ("folder", "link"):
                    self.assertEqual(sorted(found), ["four", "mine", "newer", "three", "two"])
        self.assertTrue(all(met.get(act, 0) > 0 for act in ACTS), met)

    def test_a_fall(self):
        for word in ("place", "look"):
            for many in range(len(self.words)):
                world = self.behind(many, word)
                told = world.keeper_of("a").heard
                world.fall("a")
                world.start("a", 3)
                self.assertEqual(world.keeper_of("a").heard, told)
                # A second one, at the first step of the next keeper.
                twin = world.copy()
                twin.step("a", "place")
                twin.fall("a")
                twin.start("a", 4)
                for one in (world, twin):
                    self.rests(one)
                    self.assertEqual(sorted(texts(one, "b")), ["four", "mine", "newer", "three", "two"])

    def test_a_fall_while_it_tells(self):
        world = World(("a", "b"))
        world.start("a", 1)
        world.start("b", 2)
        for act in AHEAD:
            world.program("a", act)
        steps(world, "a", "place", "none")
        steps(world, "a", "look", "whole")
        for many in range(9):
            one = world.copy()
            for _ in range(many):
                one.step("a", "tell")
            one.program("a", ("file", "f/x", "unheard"))
            one.fall("a")
            one.start("a", 3)
            self.rests(one)
            self.assertEqual(sorted(texts(one, "b")), ["three", "two", "unheard"])

    def test_letters(self):
        """What is heard between two steps, of a machine that writes, moves and takes away."""
        self.world.program("b", ("file", "y", "newest"))
        self.world.program("b", ("move", "g", "y2"))
        self.world.program("b", ("gone", "y2/f/x"))
        steps(self.world, "b", "look", "whole")
        steps(self.world, "b", "tell", "none")
        for many in range(len(self.words)):
            world = self.behind(many)
            first = len(world.letters)
            world.ask("a")
            world.deliver(first)
            for number in range(first + 1, len(world.letters)):
                self.assertEqual(world.deliver(number), "taken")
            waiting = world.keeper_of("a").waiting
            self.assertEqual(len(waiting), 3)
            while world.keeper_of("a").waiting:
                world.step("a", "hear")
                world.step("a", "place")
            self.rests(world)
            self.assertEqual(sorted(texts(world, "b")), ["four", "mine", "newest", "three"])

    def test_the_very_same_steps_once_more(self):
        one, other = self.world.copy(), self.world.copy()
        for word in self.words:
            self.assertEqual([one.step("a", "place"), other.step("a", "place")], [word, word])
            self.assertEqual(state(one), state(other))
