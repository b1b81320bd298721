"""[4]: all errors, what each keeps, and that none is derived from another one."""

import unittest

import helpers  # noqa: F401
from whoiswho import errors

KEPT = {
    "at": """InvalidText InvalidSchema InvalidField InvalidName InvalidRecord InvalidDay InvalidTable InvalidRow
        InvalidSteps InvalidValue InvalidScript InvalidGrams InvalidRule InvalidVerdicts InvalidAnswers InvalidChoices
        InvalidSources InvalidLinks InvalidBars InvalidPeople InvalidNames InvalidDeed InvalidBook InvalidVector
        InvalidLetter InvalidEvents InvalidIndex InvalidSummary InvalidLot InvalidState Refused""".split(),
    "word": ["InvalidEntry", "InvalidSize"],
    "name": ["NoRecord"],
    "house": ["NoHouse"],
}
BARE = ["InvalidComparer", "InvalidCommand"]


class ErrorsTest(unittest.TestCase):
    def test_base(self):
        self.assertEqual(errors.WhoError.__bases__, (Exception,))

    def test_each_is_a_direct_subclass_defined_there(self):
        for name in sum(KEPT.values(), BARE):
            error = getattr(errors, name)
            self.assertEqual(error.__bases__, (errors.WhoError,), name)
            self.assertEqual(error.__module__, "whoiswho.errors")

    def test_no_other_errors(self):
        found = [name for name, thing in vars(errors).items() if isinstance(thing, type)]
        self.assertEqual(sorted(found), sorted(sum(KEPT.values(), BARE) + ["WhoError"]))

    def test_arguments_are_kept_themselves(self):
        for word, names in KEPT.items():
            for name in names:
                for thing in ([1, [2]], None, True, "x", (0, 1), object()):
                    by_place = getattr(errors, name)(thing)
                    by_name = getattr(errors, name)(**{word: thing})
                    self.assertIs(getattr(by_place, word), thing)
                    self.assertIs(getattr(by_name, word), thing)
                    self.assertEqual(list(vars(by_place)), [word])

    def test_number_of_arguments(self):
        for names in KEPT.values():
            for name in names:
                with self.assertRaises(TypeError):
                    getattr(errors, name)()
                with self.assertRaises(TypeError):
                    getattr(errors, name)(1, 2)

    def test_bare_ones(self):
        for name in BARE:
            self.assertEqual(vars(getattr(errors, name)()), {})

    def test_can_be_raised_and_caught_by_base(self):
        with self.assertRaises(errors.WhoError) as caught:
            raise errors.InvalidSize("most")
        self.assertEqual(caught.exception.word, "most")


if __name__ == "__main__":
    unittest.main()
