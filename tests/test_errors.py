import unittest

from ballotin import errors

NAMES = (
    "BadCount", "BadPick", "NoDraw", "NotWhole", "BadChance", "BadName", "Taken", "Full", "NoPerson",
    "NoLeague", "NoRow", "NoSitting", "NotDue", "NoHead", "NothingLeft", "BadText", "BadRound",
)


class Errors(unittest.TestCase):
    def test_ballot_error_stands_straight_under_value_error(self):
        self.assertEqual(errors.BallotError.__bases__, (ValueError,))

    def test_each_class_stands_under_its_name_straight_under_ballot_error(self):
        for name in NAMES:
            with self.subTest(name=name):
                found = getattr(errors, name)
                self.assertEqual(found.__name__, name)
                self.assertEqual(found.__bases__, (errors.BallotError,))

    def test_none_stands_under_another(self):
        for name in NAMES:
            for other in NAMES:
                if name != other:
                    self.assertFalse(issubclass(getattr(errors, name), getattr(errors, other)), (name, other))

    def test_bad_round_has_its_field_at(self):
        for at in (0, 1, 19):
            with self.assertRaises(errors.BallotError) as caught:
                raise errors.BadRound(at)
            self.assertEqual(caught.exception.at, at)
            self.assertIs(type(caught.exception.at), int)


if __name__ == "__main__":
    unittest.main()
