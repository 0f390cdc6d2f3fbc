import unittest

from coolway import errors

PLAIN = (
    "BadState",
    "BadMove",
    "BadLateness",
    "BadPlan",
    "TooLarge",
    "BadDriver",
    "BadMore",
    "Spoiled",
    "NothingDone",
    "BadPurse",
    "BadNews",
    "BadFee",
)
TOLD = {"BadMap": "part", "BadLog": "index", "BadText": "row"}


class Errors(unittest.TestCase):
    def test_the_base(self):
        self.assertEqual(errors.CoolError.__bases__, (ValueError,))

    def test_all_are_direct_subclasses(self):
        for name in PLAIN + tuple(TOLD):
            self.assertEqual(getattr(errors, name).__bases__, (errors.CoolError,), name)
            self.assertEqual(getattr(errors, name).__module__, "coolway.errors")
        found = {error.__name__ for error in errors.CoolError.__subclasses__()}
        self.assertEqual(found, set(PLAIN) | set(TOLD))

    def test_attributes(self):
        for name, attribute in TOLD.items():
            for value in (None, 0, 3, "ROADS"):
                error = getattr(errors, name)(value)
                self.assertEqual(getattr(error, attribute), value)

    def test_they_can_be_caught_by_the_base(self):
        for name in PLAIN:
            with self.assertRaises(errors.CoolError) as caught:
                raise getattr(errors, name)("words")
            self.assertEqual(str(caught.exception), "words")


if __name__ == "__main__":
    unittest.main()
