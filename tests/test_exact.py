import unittest

from powernumbers.errors import NoAsk, NoFactor, NoNumber, PowerError
from powernumbers.roots.exact import number_shown, read_number, root_of, taken

GREAT = 10 ** 40


def place_refused(text):
    """The place at which read_number refuses the text, or None where it does not."""
    try:
        read_number(text)
    except NoNumber as error:
        return error.place
    return None


class TestRootOf(unittest.TestCase):
    def check(self, number, exponent):
        pair = root_of(number, exponent)
        self.assertIs(type(pair), tuple)
        self.assertEqual([type(part) for part in pair], [int, int])
        root, left = pair
        self.assertGreaterEqual(root, 0)
        self.assertLessEqual(root ** exponent, number)
        self.assertGreater((root + 1) ** exponent, number)
        self.assertEqual(left, number - root ** exponent)

    def test_told_by_going_through_all(self):
        for exponent in range(1, 13):
            root = 0
            for number in range(1200):
                if (root + 1) ** exponent <= number:
                    root += 1
                told = (root, number - root ** exponent)
                self.assertEqual(root_of(number, exponent), told, (number, exponent))

    def test_of_nought_and_one(self):
        for exponent in range(1, 201):
            self.assertEqual(root_of(0, exponent), (0, 0))
            self.assertEqual(root_of(1, exponent), (1, 0))

    def test_by_exponent_one(self):
        for number in (0, 1, 2, 9, 1000, GREAT - 1, GREAT):
            self.assertEqual(root_of(number, 1), (number, 0))

    def test_second_part_is_what_is_left(self):
        self.assertEqual(root_of(30, 2), (5, 5))
        self.assertEqual(root_of(30, 3), (3, 3))
        self.assertEqual(root_of(30, 4), (2, 14))
        self.assertEqual(root_of(30, 5), (1, 29))

    def test_of_powers_and_next_to_them(self):
        for exponent in range(2, 201):
            for base in (2, 3, 7, 10, 99, 2 ** 16, 10 ** 20, 10 ** 20 + 39):
                power = base ** exponent
                if power > GREAT:
                    continue
                below = (base - 1) ** exponent
                self.assertEqual(root_of(power, exponent), (base, 0))
                self.assertEqual(root_of(power + 1, exponent), (base, 1))
                self.assertEqual(root_of(power - 1, exponent), (base - 1, power - 1 - below))

    def test_next_to_the_greatest_number_by_every_exponent(self):
        for exponent in range(1, 201):
            for number in (GREAT - 1, GREAT, GREAT + 1, 2 ** 132, 2 ** 132 - 1):
                self.check(number, exponent)
        self.assertEqual(root_of(GREAT, 40), (10, 0))
        self.assertEqual(root_of(GREAT - 1, 40), (9, GREAT - 1 - 9 ** 40))

    def test_where_the_root_becomes_one(self):
        self.assertEqual(root_of(2 ** 132, 132), (2, 0))
        self.assertEqual(root_of(2 ** 132 - 1, 132), (1, 2 ** 132 - 2))
        self.assertEqual(root_of(2 ** 132, 133), (1, 2 ** 132 - 1))
        self.assertEqual(root_of(GREAT, 200), (1, GREAT - 1))
        self.assertEqual(root_of(2, 200), (1, 1))

    def test_many_numbers_by_many_exponents(self):
        number = 5
        while number < GREAT:
            for exponent in (1, 2, 3, 4, 5, 6, 7, 11, 17, 40, 64, 131):
                self.check(number, exponent)
            number = number * 3 + 1

    def test_beyond_the_limits(self):
        for number in (10 ** 60 + 7, 3 ** 500 - 1, 3 ** 500):
            for exponent in (2, 3, 50, 250):
                self.check(number, exponent)

    def test_asked_again(self):
        first = root_of(GREAT - 1, 7)
        root_of(5, 2)
        root_of(GREAT, 3)
        self.assertEqual(root_of(GREAT - 1, 7), first)


class TestTaken(unittest.TestCase):
    def test_compared_with_multiplying(self):
        for base in (0, 1, 2, 3, 10, 36, 10 ** 20 + 1):
            power = 1
            for exponent in range(201):
                self.assertEqual(taken(base, exponent), power, (base, exponent))
                power = power * base

    def test_exponent_nought(self):
        for base in (0, 1, 2, GREAT):
            self.assertEqual(taken(base, 0), 1)

    def test_bases_nought_and_one(self):
        for exponent in range(1, 201):
            self.assertEqual(taken(0, exponent), 0)
            self.assertEqual(taken(1, exponent), 1)

    def test_greatest(self):
        self.assertEqual(taken(GREAT, 200), int("1" + "0" * 4000) * 10 ** 4000)
        self.assertEqual(taken(GREAT, 1), GREAT)

    def test_kind(self):
        self.assertIs(type(taken(0, 0)), int)
        self.assertIs(type(taken(3, 4)), int)

    def test_asked_again(self):
        first = taken(7, 99)
        taken(0, 0)
        taken(GREAT, 200)
        self.assertEqual(taken(7, 99), first)


class TestNumberShown(unittest.TestCase):
    def test_small_numbers(self):
        for number in range(2000):
            self.assertEqual(number_shown(number), str(number))

    def test_next_to_powers_of_ten(self):
        for many in range(1, 4000, 7):
            self.assertEqual(number_shown(10 ** many), "1" + "0" * many)
            self.assertEqual(number_shown(10 ** many - 1), "9" * many)

    def test_figures_of_great_numbers(self):
        for number in (GREAT, GREAT - 1, 2 ** 132, 3 ** 83, 7 ** 4700, 10 ** 50, 10 ** 100 + 5):
            self.assertEqual(number_shown(number), str(number))

    def test_four_thousand_figures_and_more(self):
        for many in (3999, 4000, 4300, 4301, 5000):
            figures = "1234567890" * (many // 10) + "7" * (many % 10)
            number = 0
            for figure in figures:
                number = number * 10 + int(figure)
            self.assertEqual(number_shown(number), figures)

    def test_kind(self):
        self.assertIs(type(number_shown(0)), str)

    def test_asked_again(self):
        first = number_shown(GREAT - 1)
        number_shown(10 ** 4000)
        self.assertEqual(number_shown(GREAT - 1), first)


class TestReadNumber(unittest.TestCase):
    def test_figures(self):
        for number in range(1200):
            self.assertEqual(read_number(str(number)), number)
        for number in (GREAT - 1, GREAT, 2 ** 132, 10 ** 199, 10 ** 200 - 1):
            self.assertEqual(read_number(str(number)), number)

    def test_more_figures_than_int_reads(self):
        self.assertEqual(read_number("9" * 4500), 10 ** 4500 - 1)

    def test_base_and_exponent(self):
        for base in (0, 1, 2, 9, 10, 12, 1000):
            for exponent in range(201):
                self.assertEqual(read_number(f"{base}^{exponent}"), base ** exponent)

    def test_edges_of_base_and_exponent(self):
        self.assertEqual(read_number("0^0"), 1)
        self.assertEqual(read_number("0^1"), 0)
        self.assertEqual(read_number("0^200"), 0)
        self.assertEqual(read_number("1^200"), 1)
        self.assertEqual(read_number("2^0"), 1)
        self.assertEqual(read_number("2^1"), 2)
        self.assertEqual(read_number("2^200"), 2 ** 200)
        self.assertEqual(read_number("10^40"), GREAT)

    def test_bases_of_very_many_figures(self):
        base = "123456789" * 21 + "123456"
        self.assertEqual(read_number(base + "^200"), int(base) ** 200)
        self.assertEqual(read_number(base + "^0"), 1)
        self.assertEqual(read_number(base + "^1"), int(base))

    def test_kind(self):
        for text in ("0", "12", "0^0", "2^10"):
            self.assertIs(type(read_number(text)), int)

    def test_what_is_shown_is_read(self):
        for number in (0, 1, 9, 10, GREAT, 7 ** 200, 10 ** 4000 - 1):
            self.assertEqual(read_number(number_shown(number)), number)

    def test_refused_is_a_no_number_with_its_place(self):
        for text in ("", "x", "01", "2^", "2^201"):
            with self.assertRaises(NoNumber) as caught:
                read_number(text)
            error = caught.exception
            self.assertIs(type(error), NoNumber)
            self.assertIs(type(error.place), int)
            self.assertIsInstance(error, PowerError)
            self.assertIsInstance(error, ValueError)
            self.assertNotIsInstance(error, NoAsk)
            self.assertNotIsInstance(error, NoFactor)

    def test_empty_text(self):
        self.assertEqual(place_refused(""), 0)

    def test_sign_that_is_no_figure(self):
        for sign in (" ", "-", "+", "\n", "a", "_", ".", ",", "e", "*", "/", ":", "~"):
            self.assertEqual(place_refused(sign), 0)
            self.assertEqual(place_refused(sign + "12"), 0)
            self.assertEqual(place_refused("1" + sign + "2"), 1)
            self.assertEqual(place_refused("12" + sign), 2)
            self.assertEqual(place_refused("0" + sign), 1)
            self.assertEqual(place_refused("0" + sign + "1"), 1)
            self.assertEqual(place_refused(sign + "12^3"), 0)
            self.assertEqual(place_refused("12" + sign + "^3"), 2)
            self.assertEqual(place_refused("12^" + sign), 3)
            self.assertEqual(place_refused("12^" + sign + "3"), 3)
            self.assertEqual(place_refused("12^3" + sign), 4)
            self.assertEqual(place_refused("12^3" + sign + "4"), 4)

    def test_every_sign_but_figures_and_the_roof(self):
        for code in range(32, 127):
            sign = chr(code)
            if sign in "0123456789^":
                continue
            self.assertEqual(place_refused("5" + sign), 1, sign)
            self.assertEqual(place_refused("5^6" + sign), 3, sign)

    def test_figures_that_are_none_of_ten(self):
        self.assertEqual(place_refused("1\u00b2"), 1)
        self.assertEqual(place_refused("\u0661"), 0)

    def test_nought_ahead_of_a_figure(self):
        for text in ("00", "01", "012", "0012", "01^2", "00^2", "01x", "00 ", "01^", "09^300"):
            self.assertEqual(place_refused(text), 0, text)
        for text in ("2^00", "2^01", "2^007", "2^0201", "2^01x", "2^00^"):
            self.assertEqual(place_refused(text), 2, text)
        self.assertEqual(place_refused("12^05"), 3)
        self.assertEqual(place_refused("0^00"), 2)

    def test_nought_that_is_not_ahead_of_a_figure(self):
        self.assertEqual(place_refused("0x1"), 1)
        self.assertEqual(place_refused("2^0x"), 3)
        self.assertEqual(place_refused("2^0^"), 3)
        self.assertIsNone(place_refused("0"))
        self.assertIsNone(place_refused("10"))
        self.assertIsNone(place_refused("2^100"))

    def test_roof_where_a_figure_lacks(self):
        self.assertEqual(place_refused("^"), 0)
        self.assertEqual(place_refused("^2"), 0)
        self.assertEqual(place_refused("^^"), 0)
        self.assertEqual(place_refused("2^^"), 2)
        self.assertEqual(place_refused("2^^3"), 2)

    def test_second_roof(self):
        self.assertEqual(place_refused("2^3^"), 3)
        self.assertEqual(place_refused("2^3^4"), 3)
        self.assertEqual(place_refused("12^34^5"), 5)

    def test_text_that_ends_where_a_figure_lacks(self):
        self.assertEqual(place_refused("2^"), 2)
        self.assertEqual(place_refused("12^"), 3)
        self.assertEqual(place_refused("0^"), 2)

    def test_exponent_above_the_greatest(self):
        for exponent in ("201", "300", "999", "1000", "20000", "9" * 197):
            self.assertEqual(place_refused("2^" + exponent), 2, exponent)
        for base in ("0", "1"):
            self.assertEqual(place_refused(base + "^201"), 2)
        self.assertEqual(place_refused("12345^201"), 6)
        self.assertIsNone(place_refused("12345^200"))
        self.assertIsNone(place_refused("12345^199"))

    def test_exponent_above_the_greatest_with_a_later_fault(self):
        self.assertEqual(place_refused("2^201x"), 5)
        self.assertEqual(place_refused("2^201^"), 5)
        self.assertEqual(place_refused("2^201^3"), 5)
        self.assertEqual(place_refused("2^2010 "), 6)
        self.assertEqual(place_refused("2^" + "9" * 197 + "\n"), 199)

    def test_texts_of_two_hundred_signs(self):
        self.assertEqual(read_number("7" * 200), int("7" * 200))
        self.assertEqual(place_refused("7" * 199 + "-"), 199)
        self.assertEqual(place_refused("7" * 199 + "^"), 200)
        self.assertEqual(place_refused("7" * 100 + "^" + "1" * 99), 101)
        self.assertEqual(place_refused("7" * 195 + "^" + "201x"), 199)
        self.assertEqual(place_refused("0" * 200), 0)
        self.assertEqual(place_refused(" " * 200), 0)

    def test_asked_again(self):
        first = read_number("12^34")
        self.assertEqual(place_refused("12^"), 3)
        self.assertEqual(read_number("0^0"), 1)
        self.assertEqual(read_number("12^34"), first)
        self.assertEqual(place_refused("12^"), 3)


class TestInterface(unittest.TestCase):
    def test_defined_in_their_file(self):
        for function in (root_of, taken, read_number, number_shown):
            self.assertEqual(function.__module__, "powernumbers.roots.exact")


if __name__ == "__main__":
    unittest.main()
