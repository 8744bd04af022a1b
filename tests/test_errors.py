"""Point [3] and the interface of stagedplans.errors."""

import unittest

import stagedplans.errors as errors

NAMES = """
    InvalidRegion InvalidShare InvalidUser InvalidRank InvalidIndex InvalidLimit InvalidLeast
    InvalidReading InvalidSpan InvalidReadings NotAPlan InvalidState InvalidLetter InvalidLetters
    NoRegion NoStage InvalidRows InvalidPartials InvalidBehaviour InvalidTable InvalidMachine
    InvalidWord InvalidNumber InvalidRate InvalidPairs OtherShape NoHistory InvalidSeen NoPart
    InvalidText NotAStagePlan NotABehaviour NothingToUndo NotAllowed
""".split()


class Errors(unittest.TestCase):
    def test_base_is_a_value_error(self):
        self.assertTrue(issubclass(errors.PlanError, ValueError))
        self.assertIsInstance(errors.PlanError(), ValueError)

    def test_each_is_made_without_arguments(self):
        for name in NAMES:
            with self.subTest(name):
                error = getattr(errors, name)()
                self.assertIsInstance(error, errors.PlanError)
                self.assertIsInstance(error, ValueError)
                self.assertEqual(name, error.__class__.__name__)

    def test_each_is_caught_as_plan_error_and_as_value_error(self):
        for name in NAMES:
            for base in (errors.PlanError, ValueError):
                with self.subTest(name), self.assertRaises(base):
                    raise getattr(errors, name)()

    def test_none_is_above_another(self):
        classes = [getattr(errors, name) for name in NAMES]
        for one in classes:
            self.assertIsNot(one, errors.PlanError)
            for other in classes:
                with self.subTest(one=one, other=other):
                    self.assertEqual(one is other, issubclass(one, other))

    def test_each_is_defined_in_this_module(self):
        for name in ["PlanError"] + NAMES:
            self.assertEqual("stagedplans.errors", getattr(errors, name).__module__)


if __name__ == "__main__":
    unittest.main()
