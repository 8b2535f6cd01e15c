import unittest

from powernumbers.errors import NoAsk, NoFactor, NoNumber, PowerError

REFUSALS = (NoAsk, NoNumber, NoFactor)


class TestErrors(unittest.TestCase):
    def test_power_error_is_a_value_error(self):
        self.assertTrue(issubclass(PowerError, ValueError))

    def test_every_refusal_stands_under_power_error(self):
        for refusal in REFUSALS:
            self.assertTrue(issubclass(refusal, PowerError), refusal)

    def test_no_refusal_stands_under_another_one(self):
        for upper in REFUSALS:
            for lower in REFUSALS:
                if lower is not upper:
                    self.assertFalse(issubclass(lower, upper), (lower, upper))

    def test_power_error_tells_its_text(self):
        self.assertEqual(str(PowerError("refused")), "refused")

    def test_no_ask_tells_its_text(self):
        for text in ("", "what is this?", "two\nrows", "{braces}"):
            self.assertEqual(str(NoAsk(text)), text)

    def test_no_number_keeps_its_place(self):
        for place in (0, 1, 200):
            error = NoNumber(place)
            self.assertIs(type(error.place), int)
            self.assertEqual(error.place, place)
            self.assertIsInstance(str(error), str)

    def test_no_factor_keeps_its_number(self):
        for number in (0, 1, 10 ** 6):
            error = NoFactor(number)
            self.assertIs(type(error.number), int)
            self.assertEqual(error.number, number)
            self.assertIsInstance(str(error), str)

    def test_errors_of_one_kind_keep_their_own(self):
        first, second = NoNumber(1), NoNumber(2)
        self.assertEqual((first.place, second.place), (1, 2))
        first, second = NoFactor(1), NoFactor(2)
        self.assertEqual((first.number, second.number), (1, 2))

    def test_defined_in_their_file(self):
        for error in (PowerError, *REFUSALS):
            self.assertEqual(error.__module__, "powernumbers.errors")


if __name__ == "__main__":
    unittest.main()
