"""The classes of errors: point 4 and flowpieces/errors.py."""

import unittest

from flowpieces import errors
from samples import Hostile

GIVEN = (
    "InvalidFraction InvalidNumber InvalidLetters InvalidLetter InvalidLength InvalidWord InvalidSum InvalidTables "
    "InvalidStep InvalidParts InvalidMeaning InvalidRelations InvalidIndex InvalidName InvalidWish InvalidPhrase "
    "UnknownName NotAWorkshop"
).split()
INDEX = "InUse Broken".split()
BARE = "NotLeast NotBrackets NotClosed NotRight NotStaying NothingToUndo".split()
KEPT = (None, True, 0, -1, "text", [1, [2]], {1: 2}, (), ((0,), (1, 1)), object(), Hostile(), 10**5000)


class Classes(unittest.TestCase):
    def test_all_are_there_and_no_others(self):
        found = [name for name, value in vars(errors).items() if isinstance(value, type)]
        self.assertEqual(sorted(found), sorted(GIVEN + INDEX + BARE + ["FlowError"]))

    def test_bases(self):
        self.assertEqual(errors.FlowError.__bases__, (ValueError,))
        for name in GIVEN + INDEX + BARE:
            self.assertEqual(getattr(errors, name).__bases__, (errors.FlowError,), name)

    def test_keep_what_they_are_made_with(self):
        for names, attribute in ((GIVEN, "given"), (INDEX, "index")):
            for name in names:
                made = getattr(errors, name)
                for value in KEPT:
                    self.assertIs(getattr(made(value), attribute), value)
                    self.assertIs(getattr(made(**{attribute: value}), attribute), value)

    def test_ask_for_their_attributes_alone(self):
        for name in GIVEN + INDEX:
            made = getattr(errors, name)
            with self.assertRaises(TypeError):
                made()
            with self.assertRaises(TypeError):
                made(1, 2)
            with self.assertRaises(TypeError):
                made(other=1)

    def test_without_attributes(self):
        for name in BARE + ["FlowError"]:
            self.assertEqual(vars(getattr(errors, name)()), {}, name)

    def test_are_true_and_equal_to_themselves_alone(self):
        for name in GIVEN + INDEX:
            made = getattr(errors, name)
            self.assertTrue(made(0))
            self.assertNotEqual(made(0), made(0))


if __name__ == "__main__":
    unittest.main()
