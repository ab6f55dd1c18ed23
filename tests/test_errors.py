"""The errors, with their attributes."""

import unittest

from hitclocks import errors

PLAIN = ("BadBack BadFront BadGoals BadLap BadLetter BadLettering BadLetters BadLines BadLot BadMatrix BadMean BadMeans "
         "BadName BadNames BadNumber BadPacking BadPair BadPaper BadPath BadPlace BadPrice BadReading BadRing BadRule "
         "BadState BadTable BadWays BadWord NoBlock NotAhead NothingDone").split()
WITH = {"BadBreaks": "at", "BadCases": "at", "BadFronts": "at", "BadJournal": "at", "BadMemory": "part",
        "BadMonitor": "part", "BadPairs": "at", "BadPieces": "at", "BadPrices": "at", "BadProgram": "part",
        "BadTale": "at", "BadText": "row", "Barred": "letter", "NoLetter": "letter", "NoName": "name", "NotOpen": "at",
        "TooMany": "most"}


class Errors(unittest.TestCase):
    def test_all_are_directly_below_clock_error(self):
        self.assertEqual(errors.ClockError.__bases__, (ValueError,))
        for name in PLAIN + list(WITH):
            self.assertEqual(getattr(errors, name).__bases__, (errors.ClockError,), name)

    def test_there_are_no_others(self):
        found = {name for name in vars(errors) if isinstance(getattr(errors, name), type)}
        self.assertEqual(found, set(PLAIN) | set(WITH) | {"ClockError"})

    def test_plain_ones_are_made_with_a_message(self):
        for name in PLAIN:
            self.assertEqual(str(getattr(errors, name)("what is wrong")), "what is wrong")

    def test_attributes_by_position_and_by_name(self):
        for name, attribute in WITH.items():
            for value in (None, 3, "letters", ("a", [1]), True):
                by_position = getattr(errors, name)(value)
                by_name = getattr(errors, name)(**{attribute: value})
                self.assertIs(getattr(by_position, attribute), value)
                self.assertIs(getattr(by_name, attribute), value)
                with self.assertRaises(ValueError):
                    raise by_name


if __name__ == "__main__":
    unittest.main()
