"""Worlds: machines, keepers, letters, falls and backups, step by step."""

import random
import unittest

from allonetree.discs import Disc
from allonetree.errors import (
    BadAct,
    BadBook,
    BadLife,
    BadNames,
    BadNumber,
    BadWord,
    Fallen,
    NoBackup,
    NoMachine,
    Refused,
    Running,
    UsedLife,
)
from allonetree.keeping import Keeper
from allonetree.pictures import picture
from allonetree.worlds import World
from tests import plain_forms
from tests.values import any_values, bends, raised
from tests.weaving import Weaver, state


def begun(*names, acts=()):
    """A world in which a keeper runs at each machine."""
    world = World(names)
    for life, name in enumerate(names, 1):
        world.start(name, life)
    for name, act in acts:
        world.program(name, act)
    return world


def steps(world, name, word, *ends):
    found = [world.step(name, word)]
    while found[-1] not in ends:
        found.append(world.step(name, word))
    return found


class Names(unittest.TestCase):
    def test_one_to_four(self):
        for names in (("a",), ("a", "b"), ("sea", "Hill", "x.y-z_1"), ("a", "b", "c", "d"), ("...",), ("a" * 40,)):
            world = World(names)
            self.assertEqual((world.names, world.letters), (names, ()))
            for name in names:
                self.assertTrue(world.disc_of(name) == Disc())
                self.assertIs(world.keeper_of(name), None)
                self.assertEqual(world.rows(name), ())
            self.assertIs(world.alike(), True)
            discs = [id(world.disc_of(name)) for name in names]
            self.assertEqual(len(set(discs)), len(discs))

    def test_what_are_no_names(self):
        good = ("sea", "hill")
        bad = [
            (),
            ("a", "b", "c", "d", "e"),
            ("a", "a"),
            ("a", "A"),
            ("ab", "c", "aB"),
            ("",),
            (".",),
            ("..",),
            ("a/b",),
            ("a b",),
            ("\u00e4",),
            ("a\n",),
            ["a"],
            "a",
            ("a", None),
            ("a", ("b",)),
            ("a", 1),
            {"a": 1},
        ]
        for value in bad + any_values() + bends(good):
            fits = isinstance(value, tuple) and 0 < len(value) < 5 and all(plain_forms.name(one) for one in value)
            if not fits or len({one.lower() for one in value}) < len(value):
                self.assertIs(raised(BadNames, World, value), value)
        for value in bad:
            self.assertIs(raised(BadNames, World, names=value), value)


class Machines(unittest.TestCase):
    """Each call that has a name: which error comes first."""

    CALLS = (
        ("program", (("folder", "f"),)),
        ("start", (7,)),
        ("fall", ()),
        ("step", ("look",)),
        ("ask", ()),
        ("save", ()),
        ("back", ()),
        ("disc_of", ()),
        ("keeper_of", ()),
        ("rows", ()),
    )

    def test_no_machine(self):
        world = begun("sea", "hill")
        world.fall("hill")
        before = state(world)
        for value in any_values() + ["SEA", "Hill", "sea ", "se", ("sea",), ["sea"], b"sea"]:
            for word, given in self.CALLS:
                self.assertIs(raised(NoMachine, getattr(world, word), value, *given), value)
                # Whatever else is handed in.
                self.assertIs(raised(NoMachine, getattr(world, word), value, *([None] * len(given))), value)
        self.assertEqual(state(world), before)

    def test_fallen(self):
        world = begun("sea", "hill")
        world.fall("hill")
        before = state(world)
        for word, given in (("fall", ()), ("step", ("look",)), ("step", ("x",)), ("step", (None,)), ("ask", ())):
            self.assertEqual(raised(Fallen, getattr(world, word), "hill", *given), "hill")
            self.assertEqual(raised(Fallen, getattr(World(("a",)), word), "a", *given), "a")
        self.assertEqual(state(world), before)

    def test_running(self):
        world = begun("sea", "hill")
        world.save("sea")
        before = state(world)
        for life in (9, 1, 0, None, [1]):
            self.assertEqual(raised(Running, world.start, "sea", life), "sea")
        for name in ("sea", "hill"):
            self.assertEqual(raised(Running, world.back, name), name)
        self.assertEqual(state(world), before)

    def test_arguments_by_name(self):
        world = World(names=("a", "b"))
        self.assertIsNone(world.program(act=("file", "x", "t"), name="a"))
        self.assertIsNone(world.start(life=3, name="a"))
        self.assertEqual(world.step(word="place", name="a"), "none")
        self.assertEqual(world.ask(name="a"), (0,))
        self.assertEqual(world.deliver(number=0), "lost")
        self.assertIsNone(world.save(name="a"))
        self.assertIsNone(world.fall(name="a"))
        self.assertIsNone(world.back(name="a"))
        self.assertEqual(world.rows(name="a"), (("x", "file", "t"),))
        self.assertTrue(world.disc_of(name="a") == world.disc_of("a"))
        self.assertIsNone(world.keeper_of(name="b"))


class Programs(unittest.TestCase):
    def test_deeds(self):
        world = World(("a", "b"))
        self.assertIsNone(world.program("a", ("folder", "f")))
        world.program("a", ("file", "f/x", "one"))
        self.assertEqual(world.rows("a"), (("f", "folder", ""), ("f/x", "file", "one")))
        self.assertEqual((world.rows("b"), world.alike()), ((), False))
        # Spelled otherwise it is not the same.
        for name, told in (("F", False), ("f", True)):
            world.program("b", ("folder", name))
            world.program("b", ("file", name + "/x", "one"))
            self.assertIs(world.alike(), told)
            if not told:
                world.program("b", ("gone", name))
        self.assertEqual(raised(Refused, world.program, "a", ("folder", "F")), "stands")

    def test_errors(self):
        world = begun("a")
        before = state(world)
        for act in any_values() + [("folder",), ("folder", "a//b"), ["folder", "a"], ("file", "a"), ("put", "a", "b")]:
            self.assertIs(raised(BadAct, world.program, "a", act), act)
        for act, word in ((("gone", ""), "root"), (("gone", "x"), "none"), (("file", "f/x", ""), "none")):
            self.assertEqual(raised(Refused, world.program, "a", act), word)
        self.assertEqual(state(world), before)

    def test_the_very_disc(self):
        world = World(("a", "b"))
        world.disc_of("a").do(("folder", "f"))
        self.assertEqual(world.rows("a"), (("f", "folder", ""),))
        world.start("a", 1)
        self.assertIs(world.keeper_of("a").disc, world.disc_of("a"))


class Starts(unittest.TestCase):
    def test_a_keeper_runs(self):
        world = World(("a", "b"))
        self.assertIsNone(world.start("a", 1000000))
        keeper = world.keeper_of("a")
        self.assertIs(type(keeper), Keeper)
        self.assertEqual((keeper.life, world.disc_of("a").book), (1000000, ("life 1000000",)))
        self.assertIs(world.keeper_of("b"), None)
        self.assertIsNone(world.fall("a"))
        self.assertIs(world.keeper_of("a"), None)
        self.assertEqual(world.disc_of("a").book, ("life 1000000",))

    def test_lives(self):
        world = World(("a",))
        world.disc_of("a").note("x")
        for value in any_values() + [0, 1000001]:
            if not plain_forms.life(value):
                self.assertIs(raised(BadLife, world.start, "a", value), value)
        # A book that can't be read comes ahead of a LIFE that was used.
        world = begun("a", "b")
        world.fall("a")
        world.fall("b")
        world.disc_of("a").note("x")
        for life in (1, 2, 3):
            self.assertEqual(raised(BadBook, world.start, "a", life), 2)
        self.assertEqual(raised(BadLife, world.start, "a", 0), 0)
        self.assertIs(world.keeper_of("a"), None)
        # What could not start used no LIFE.
        world.start("b", 3)

    def test_lives_that_were_used(self):
        world = begun("a", "b", "c")
        world.fall("a")
        world.fall("b")
        for name in ("a", "b"):
            for life in (1, 2, 3):
                before = state(world)
                self.assertEqual(raised(UsedLife, world.start, name, life), life)
                self.assertEqual(state(world), before)
        world.start("a", 4)
        world.fall("a")
        self.assertEqual(raised(UsedLife, world.start, "b", 4), 4)
        world.start("b", 5)

    def test_a_life_of_which_a_deed_is_heard(self):
        world = World(("a", "b"))
        world.disc_of("a").note("heard born 9.0 1 folder root f")
        self.assertEqual(raised(UsedLife, world.start, "a", 9), 9)
        # At the other machine it is new, and then used in the world.
        world.start("b", 9)
        world.start("a", 8)

    def test_a_disc_that_was_put_back(self):
        world = begun("a")
        world.fall("a")
        world.save("a")
        world.start("a", 2)
        world.fall("a")
        world.back("a")
        # The book does not tell of it, the world does.
        self.assertEqual(world.disc_of("a").book, ("life 1",))
        self.assertEqual(raised(UsedLife, world.start, "a", 2), 2)
        world.start("a", 3)


class Steps(unittest.TestCase):
    def test_words(self):
        world = begun("a", acts=[("a", ("file", "x", "t"))])
        self.assertEqual(world.step("a", "look"), "waits")
        self.assertEqual(world.step("a", "place"), "none")
        self.assertEqual(steps(world, "a", "look", "whole"), ["on"] * 3 + ["whole"])
        self.assertEqual(steps(world, "a", "tell", "none"), ["told", "told", "done", "none"])
        self.assertEqual(world.step("a", "hear"), "none")

    def test_other_words(self):
        world = begun("a")
        before = state(world)
        for value in any_values() + ["Look", "look ", "take", "ask", "rests", "heard", ("look",), ["tell"]]:
            self.assertIs(raised(BadWord, world.step, "a", value), value)
        self.assertEqual(state(world), before)


class Sent(unittest.TestCase):
    def test_letters_that_ask(self):
        world = begun("a", "b", "c", "d")
        self.assertEqual(world.ask("b"), (0, 1, 2))
        self.assertEqual(world.letters, (("b", "a", "ask"), ("b", "c", "ask"), ("b", "d", "ask")))
        self.assertEqual(world.ask("a"), (3, 4, 5))
        self.assertEqual(World(("a",)).letters, ())
        world = begun("a")
        self.assertEqual((world.ask("a"), world.letters), ((), ()))

    def told(self):
        """Seven DEEDS are told at a."""
        acts = [("a", ("folder", name)) for name in "efghijk"]
        world = begun("a", "b", "c", acts=acts)
        steps(world, "a", "place", "none")
        steps(world, "a", "look", "whole")
        steps(world, "a", "tell", "none")
        return world

    def test_delivered(self):
        world = self.told()
        self.assertEqual(world.ask("b"), (0, 1))
        self.assertEqual(world.deliver(0), "answered")
        # Five DEEDS at most in each.
        self.assertEqual([letter[:2] for letter in world.letters[2:]], [("a", "b")] * 2)
        self.assertEqual([letter[2].count("\n") for letter in world.letters[2:]], [5, 2])
        self.assertEqual((world.deliver(3), len(world.keeper_of("b").waiting)), ("taken", 0))
        self.assertEqual((world.deliver(2), len(world.keeper_of("b").waiting)), ("taken", 7))
        # Again, and again.
        for _ in range(2):
            self.assertEqual((world.deliver(2), len(world.keeper_of("b").waiting)), ("taken", 7))
            many = len(world.letters)
            self.assertEqual((world.deliver(0), len(world.letters)), ("answered", many + 2))
        # Who asked has in what waits: so an older letter is answered as it asked then.
        number = world.ask("b")[0]
        self.assertEqual(world.letters[number][2], "ask 1:7")
        # c has nothing to answer.
        many = len(world.letters)
        self.assertEqual((world.deliver(1), len(world.letters)), ("answered", many))

    def test_lost(self):
        world = self.told()
        world.ask("b")
        world.deliver(0)
        world.fall("b")
        world.fall("a")
        before = state(world)
        for number in range(4):
            self.assertEqual(world.deliver(number), "lost" if number != 1 else "answered")
        self.assertEqual(state(world), before)
        # Not for ever.
        world.start("b", 9)
        self.assertEqual((world.deliver(2), len(world.keeper_of("b").waiting)), ("taken", 5))
        world.start("a", 10)
        self.assertEqual(world.deliver(0), "answered")

    def test_answers_go_to_who_asked(self):
        world = self.told()
        world.ask("c")
        world.fall("c")
        self.assertEqual(world.deliver(0), "answered")
        self.assertEqual(world.letters[-1][:2], ("a", "c"))

    def test_numbers_that_are_none(self):
        world = self.told()
        for value in any_values() + [0, -1]:
            self.assertIs(raised(BadNumber, world.deliver, value), value)
        world.ask("b")
        for value in [-1, 2, 3, True, False, "0", None, 999999999, (0,)]:
            self.assertIs(raised(BadNumber, world.deliver, value), value)
        self.assertEqual(len(world.letters), 2)

    def test_letters_stay(self):
        world = self.told()
        letters = world.letters
        world.ask("a")
        self.assertEqual((letters, len(world.letters)), ((), 2))


class Backups(unittest.TestCase):
    def test_nothing_was_kept(self):
        world = begun("a", "b")
        world.fall("b")
        self.assertEqual(raised(NoBackup, world.back, "b"), "b")
        world.save("a")
        self.assertEqual(raised(NoBackup, world.back, "b"), "b")

    def test_another_disc(self):
        world = begun("a", acts=[("a", ("file", "x", "one"))])
        disc = world.disc_of("a")
        self.assertIsNone(world.save("a"))
        kept = disc.copy()
        self.assertIs(world.disc_of("a"), disc)
        world.program("a", ("file", "x", "two"))
        world.fall("a")
        for text in ("three", "four"):
            self.assertIsNone(world.back("a"))
            self.assertIsNot(world.disc_of("a"), disc)
            disc = world.disc_of("a")
            # Book and all; what is kept stays as it is, whatever is done with the disc.
            self.assertTrue(disc == kept)
            world.program("a", ("file", "x", text))
            disc.note("life 77")
        world.back("a")
        self.assertTrue(world.disc_of("a") == kept)

    def test_the_last_one_that_was_kept(self):
        world = World(("a", "b"))
        for text in ("one", "two"):
            world.program("a", ("file", "x", text))
            world.save("a")
        world.save("b")
        world.program("a", ("gone", "x"))
        world.back("a")
        self.assertEqual((world.rows("a"), world.rows("b")), ((("x", "file", "two"),), ()))

    def test_a_keeper_may_run_when_it_is_kept(self):
        world = begun("a", acts=[("a", ("file", "x", "one"))])
        steps(world, "a", "place", "none")
        steps(world, "a", "look", "whole")
        world.step("a", "tell")
        world.save("a")
        steps(world, "a", "tell", "none")
        world.fall("a")
        world.back("a")
        self.assertEqual(len(world.disc_of("a").book), 2)
        world.start("a", 2)
        self.assertEqual(len(world.keeper_of("a").heard), 1)

    def test_what_others_heard_comes_back(self):
        world = begun("a", "b")
        world.save("a")
        for text in ("one", "two"):
            world.program("a", ("file", "x", text))
            world.rest()
        world.fall("a")
        world.back("a")
        self.assertEqual(world.rows("a"), ())
        world.start("a", 9)
        self.assertEqual((world.rest(), world.rows("a")), (2, (("x", "file", "two"),)))
        self.assertIs(world.alike(), True)


class Copies(unittest.TestCase):
    def test_alike_in_all_things(self):
        world = begun("a", "b", acts=[("a", ("file", "x", "one"))])
        other = world.copy()
        self.assertIs(type(other), World)
        self.assertEqual(state(other), state(world))
        for name in world.names:
            self.assertIsNot(other.disc_of(name), world.disc_of(name))
            self.assertIsNot(other.keeper_of(name), world.keeper_of(name))
            self.assertIs(other.keeper_of(name).disc, other.disc_of(name))

    def test_lives_ahead_of_the_copying(self):
        world = begun("a", "b")
        world.fall("a")
        other = world.copy()
        for one in (world, other, other.copy()):
            self.assertEqual(raised(UsedLife, one.start, "a", 2), 2)
            self.assertEqual(raised(UsedLife, one.start, "a", 1), 1)
            # What is started behind it is used in one of them alone.
            one.start("a", 7)

    def test_backups(self):
        world = World(("a", "b"))
        world.program("a", ("folder", "f"))
        world.save("a")
        other = world.copy()
        for one in (world, other):
            one.program("a", ("gone", "f"))
            one.back("a")
            self.assertEqual(one.rows("a"), (("f", "folder", ""),))
        other.save("b")
        self.assertEqual(raised(NoBackup, world.back, "b"), "b")
        other.program("a", ("gone", "f"))
        other.save("a")
        world.back("a")
        self.assertEqual(world.rows("a"), (("f", "folder", ""),))

    def test_they_go_on_by_themselves(self):
        """At any moment: what is done at one changes nothing of the other; both go on alike."""
        met = {}
        for seed in range(60):
            weaver = Weaver(random.Random(seed))
            many = 40 + 7 * seed
            for _ in weaver.weave(60):
                many -= 1
                if many == 0:
                    break
            for name in weaver.world.names:
                keeper = weaver.world.keeper_of(name)
                if keeper is not None:
                    met[keeper.doing and keeper.doing[0]] = met.get(keeper.doing and keeper.doing[0], 0) + 1
            first, second = weaver.world, weaver.world.copy()
            before = state(first)
            self.assertEqual(state(second), before)
            # The same is done at both, first at one, and then at the other.
            done = []
            for act, outcome in weaver.weave(15):
                done.append((act, self.outcome(outcome)))
            behind = state(first)
            self.assertEqual(state(second), before)
            third = second.copy()
            weaver.world = second
            self.assertGreater(len(done), 20)
            for act, outcome in done:
                self.assertEqual(self.outcome(weaver.do(*act)), outcome)
            self.assertEqual(state(second), behind)
            self.assertEqual(state(first), behind)
            self.assertEqual(state(third), before)
        self.assertTrue(all(word in met for word in (None, "make", "shift")), met)

    def outcome(self, found):
        return (found.__class__, found.value) if isinstance(found, Exception) else found


class Rounds(unittest.TestCase):
    def test_how_many_were_told(self):
        world = begun("a", "b", acts=[("a", ("file", "x", "t")), ("b", ("folder", "y")), ("b", ("link", "z", ""))])
        self.assertEqual([world.round(), world.round()], [4, 0])
        self.assertIs(world.alike(), True)
        world.program("a", ("gone", "x"))
        world.program("b", ("move", "z", "y/z"))
        self.assertEqual(world.round(), 2)

    def test_a_line_without_a_deed_is_not_counted(self):
        world = begun("a", acts=[("a", ("file", "x", "t"))])
        steps(world, "a", "place", "none")
        steps(world, "a", "look", "whole")
        world.step("a", "tell")
        world.fall("a")
        world.program("a", ("gone", "x"))
        world.start("a", 2)
        self.assertEqual(world.round(), 0)
        self.assertEqual(world.disc_of("a").book[-1], "rows 1 -")

    def lying(self):
        """b took a file into its ROOM, into which a program wrote ahead of that."""
        world = begun("a", "b", acts=[("a", ("file", "x", "one"))])
        world.rest()
        world.program("a", ("file", "x", "two"))
        steps(world, "a", "look", "whole")
        steps(world, "a", "tell", "none")
        world.deliver(world.ask("b")[0])
        world.deliver(len(world.letters) - 1)
        steps(world, "b", "hear", "none")
        steps(world, "b", "place", "shift")
        world.program("b", ("file", "x", "unheard of"))
        return world

    def test_what_placing_tells_is_counted(self):
        world = self.lying()
        self.assertEqual(world.round(), 1)
        self.assertEqual([row[2] for row in world.rows("a")], ["unheard of", "two"])
        self.assertIs(world.alike(), True)

    def test_a_look_that_is_on(self):
        world = begun("a", "b", acts=[("a", ("file", "x", "one"))])
        steps(world, "a", "place", "none")
        self.assertEqual([world.step("a", "look") for _ in range(3)], ["on"] * 3)
        # It has seen the root twice: what is done now it sees no more.
        world.program("a", ("file", "y", "two"))
        other = world.copy()
        self.assertEqual(steps(other, "a", "look", "whole"), ["whole"])
        self.assertEqual(len(other.keeper_of("a").standing), 1)
        self.assertEqual(world.round(), 4)
        self.assertEqual((world.alike(), len(world.rows("b"))), (True, 2))

    def test_a_look_that_was_moved(self):
        world = begun("a", "b", acts=[("a", ("file", "x", "one"))])
        steps(world, "a", "place", "none")
        self.assertEqual([world.step("a", "look") for _ in range(2)], ["on"] * 2)
        world.program("a", ("file", "y", "two"))
        self.assertEqual((world.round(), world.alike()), (4, True))

    def test_a_standing_told_in_part(self):
        world = begun("a", "b", acts=[("a", ("file", "x", "one"))])
        steps(world, "a", "place", "none")
        steps(world, "a", "look", "whole")
        world.step("a", "tell")
        world.program("a", ("file", "y", "two"))
        self.assertEqual((world.round(), world.alike()), (3, True))

    def test_an_act_that_is_begun(self):
        world = begun("a", "b", acts=[("a", ("file", "x", "one")), ("b", ("file", "X", "two"))])
        world.round()
        world.program("b", ("move", "X.also1", "c"))
        steps(world, "b", "look", "whole")
        steps(world, "b", "tell", "none")
        world.deliver(world.ask("a")[0])
        world.deliver(len(world.letters) - 1)
        steps(world, "a", "hear", "none")
        self.assertEqual(world.step("a", "place"), "shift")
        self.assertEqual((world.round(), world.alike()), (0, True))

    def test_letters_of_a_round(self):
        acts = [("a", ("folder", name)) for name in "efghijk"]
        world = begun("a", "b", "c", acts=acts)
        world.ask("c")
        world.round()
        asks = [("a", "b"), ("a", "c"), ("b", "a"), ("b", "c"), ("c", "a"), ("c", "b")]
        sent = [letter[:2] for letter in world.letters]
        self.assertEqual(sent, [("c", "a"), ("c", "b")] + asks + [("a", "b")] * 2 + [("a", "c")] * 2)
        self.assertEqual([letter[2] for letter in world.letters[2:8]], ["ask 1:7"] * 2 + ["ask"] * 4)
        # The elder letters were not delivered: no answer to them was sent.
        self.assertEqual(len(world.letters), 12)
        world.round()
        self.assertEqual(len(world.letters), 18)

    def test_machines_where_none_runs(self):
        world = begun("a", "b", "c", acts=[("a", ("folder", "f"))])
        world.fall("b")
        self.assertEqual(world.round(), 1)
        self.assertEqual([world.rows(name) for name in "abc"], [(("f", "folder", ""),), (), (("f", "folder", ""),)])
        self.assertEqual([letter[:2] for letter in world.letters], [("a", "b"), ("a", "c"), ("c", "a"), ("c", "b"), ("a", "c")])
        world = World(("a", "b"))
        self.assertEqual((world.round(), world.rest(), world.letters), (0, 1, ()))

    def test_what_waited(self):
        # Heard ahead of the asking: so it's answered to others in this round.
        world = begun("a", "b", "c", acts=[("a", ("folder", "f"))])
        steps(world, "a", "place", "none")
        steps(world, "a", "look", "whole")
        steps(world, "a", "tell", "none")
        world.deliver(world.ask("b")[0])
        world.deliver(len(world.letters) - 1)
        self.assertEqual(len(world.keeper_of("b").waiting), 1)
        world.fall("a")
        self.assertEqual((world.round(), world.rows("c")), (0, (("f", "folder", ""),)))

    def test_rest(self):
        world = begun("a", "b", acts=[("a", ("folder", "f"))])
        self.assertEqual([world.rest(), world.rest()], [2, 1])
        # A round by which folders change, and nobody hears anything new.
        world = begun("a")
        world.program("a", ("folder", "f"))
        self.assertEqual([world.rest(), world.rest()], [2, 1])

    def test_stuck_ahead_of_a_round(self):
        world = begun("a", "b", acts=[("a", ("folder", "f"))])
        steps(world, "a", "place", "none")
        steps(world, "a", "look", "whole")
        steps(world, "a", "tell", "none")
        world.deliver(world.ask("b")[0])
        world.deliver(len(world.letters) - 1)
        steps(world, "b", "place", "none")
        steps(world, "b", "hear", "none")
        world.program("b", ("link", "F", "to"))
        steps(world, "b", "place", "not")
        self.assertEqual(len(world.keeper_of("b").stuck), 1)
        self.assertEqual((world.round(), world.alike()), (1, True))
        self.assertEqual(world.rows("a"), (("F.also1", "link", "to"), ("f", "folder", "")))


class Stories(unittest.TestCase):
    def test_two_folders_moved_into_one_another_at_once(self):
        world = begun("a", "b", "c", acts=[("a", ("folder", "one")), ("a", ("folder", "two")), ("a", ("file", "one/x", "t"))])
        world.rest()
        world.program("a", ("move", "one", "two/one"))
        world.program("b", ("move", "two", "one/two"))
        world.rest()
        self.assertIs(world.alike(), True)
        # Both have one stamp: that of the lesser LIFE comes first, the other one would make a ring.
        self.assertEqual([row[0] for row in world.rows("c")], ["two", "two/one", "two/one/x"])

    def test_three_in_a_ring(self):
        names = ("a", "b", "c")
        world = begun(*names, acts=[("a", ("folder", name)) for name in "xyz"])
        world.rest()
        for name, act in zip(names, (("move", "x", "y/x"), ("move", "y", "z/y"), ("move", "z", "x/z"))):
            world.program(name, act)
        world.rest()
        self.assertIs(world.alike(), True)
        self.assertEqual([row[0] for row in world.rows("a")], ["z", "z/y", "z/y/x"])

    def test_machines_that_are_away_and_new_ones(self):
        world = World(("a", "b", "c"))
        world.start("a", 1)
        world.start("b", 2)
        for number in range(6):
            world.program("ab"[number % 2], ("file", "x%d" % (number // 2), "text %d" % number))
            if number == 3:
                world.fall("b")
        world.rest()
        world.start("c", 3)
        world.program("c", ("file", "X0", "from c"))
        world.rest()
        self.assertEqual(world.rows("a"), world.rows("c"))
        world.start("b", 4)
        world.rest()
        self.assertIs(world.alike(), True)
        texts = sorted(row[2] for row in world.rows("b"))
        self.assertEqual(texts, ["from c"] + ["text %d" % number for number in range(6)])

    def test_written_and_taken_away_at_once(self):
        world = begun("a", "b", acts=[("a", ("folder", "f")), ("a", ("file", "f/x", "one")), ("a", ("file", "f/y", "two"))])
        world.rest()
        world.program("a", ("gone", "f"))
        world.program("b", ("file", "f/x", "saved"))
        world.rest()
        self.assertEqual((world.rows("a"), world.alike()), ((("f", "folder", ""), ("f/x", "file", "saved")), True))
        self.assertEqual(world.rows("a"), picture(world.keeper_of("b").heard))
