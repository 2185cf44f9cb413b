import unittest

from fewstand import errors

OF_TEXT = ["NoNumber", "NoLot", "NoSize", "NoNames", "TooMany", "NoWeb", "NoPlan", "Twice",
           "NoMove", "NoText", "NoRow", "NoName", "Unlike"]
OF_AT = ["NoFamily", "NoPairs"]
OF_PART = ["NoMachine"]
ALL = OF_TEXT + OF_AT + OF_PART


def made(name):
    return getattr(errors, name)("a text" if name in OF_TEXT else 3)


class Refusals(unittest.TestCase):
    def test_lot_error_is_a_value_error_made_of_a_text(self):
        self.assertEqual(errors.LotError.__bases__, (ValueError,))
        self.assertEqual(str(errors.LotError("why")), "why")

    def test_each_stands_straight_under_lot_error(self):
        for name in ALL:
            with self.subTest(name):
                self.assertEqual(getattr(errors, name).__bases__, (errors.LotError,))

    def test_each_is_none_of_the_others(self):
        for name in ALL:
            one = made(name)
            self.assertIsInstance(one, errors.LotError)
            self.assertIsInstance(one, ValueError)
            for other in ALL:
                with self.subTest(name, other=other):
                    self.assertEqual(isinstance(one, getattr(errors, other)), name == other)

    def test_each_can_be_raised_and_caught(self):
        for name in ALL:
            with self.subTest(name), self.assertRaises(getattr(errors, name)):
                raise made(name)

    def test_texts_are_told(self):
        for name in OF_TEXT:
            with self.subTest(name):
                self.assertEqual(str(made(name)), "a text")

    def test_field_at(self):
        for name in OF_AT:
            for at in [None, 0, 1, 199]:
                with self.subTest(name, at=at):
                    self.assertEqual(getattr(errors, name)(at).at, at)

    def test_field_part(self):
        for part in [None, 0, 1, 2, 3]:
            with self.subTest(part=part):
                self.assertEqual(errors.NoMachine(part).part, part)


if __name__ == "__main__":
    unittest.main()
