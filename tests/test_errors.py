import unittest

from allonetree import errors
from tests.values import any_values

NAMES = """
    BadDeed BadHeard BadVector BadText Unlike Early NoItem NoDisc BadAct Refused BadNode BadLine
    LookOver BadKnown BadStanding BadLife UsedLife BadBook BadMap BadLetter BadNames NoMachine Fallen
    Running NoBackup BadWord BadNumber NothingToUndo NothingToRedo NoBlock BadJournal BadTask BadStamp
    NoWrite BadChanges BadKey BadTried BadBooked NoDeed
""".split()


class Errors(unittest.TestCase):
    def test_tree_error_derives_from_value_error(self):
        self.assertEqual(errors.TreeError.__bases__, (ValueError,))

    def test_all_derive_directly_from_tree_error(self):
        self.assertEqual(len(NAMES), 39)
        for name in NAMES:
            error = getattr(errors, name)
            self.assertEqual(error.__bases__, (errors.TreeError,), name)
            self.assertEqual((error.__name__, error.__module__), (name, "allonetree.errors"))

    def test_no_two_names_are_one_class(self):
        self.assertEqual(len({getattr(errors, name) for name in NAMES}), len(NAMES))

    def test_each_keeps_any_value_that_it_is_created_with(self):
        for name in NAMES + ["TreeError"]:
            error = getattr(errors, name)
            for value in any_values():
                self.assertIs(error(value).value, value, name)

    def test_each_takes_one_argument(self):
        for name in NAMES + ["TreeError"]:
            error = getattr(errors, name)
            self.assertRaises(TypeError, error)
            self.assertRaises(TypeError, error, 1, 2)

    def test_each_can_be_raised_and_caught_as_itself_and_as_tree_error(self):
        for name in NAMES:
            error = getattr(errors, name)
            for caught in (error, errors.TreeError, ValueError):
                with self.assertRaises(caught) as found:
                    raise error(name)
                self.assertEqual(found.exception.value, name)
                self.assertIs(found.exception.__class__, error)
