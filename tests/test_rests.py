import time
import unittest

from powernumbers.counts.bounds import count_by
from powernumbers.counts.rests import can_be, count_rest, rests_of

GREAT = 10 ** 40
SOON = 20


def rests_by_going_through_all(divisor, exponent):
    """The rests of a good many more bases than there are rests."""
    return tuple(sorted({pow(base, exponent, divisor) for base in range(3 * divisor)}))


def can_be_by_going_through_all(number, exponent, most):
    if number == 0:
        return False
    return all(
        any(pow(base, exponent, divisor) == number % divisor for base in range(divisor))
        for divisor in range(2, most + 1)
    )


class TestRestsOf(unittest.TestCase):
    def test_going_through_all(self):
        for divisor in range(1, 130):
            for exponent in (2, 3, 4, 5, 6, 12, 199, 200):
                told = rests_by_going_through_all(divisor, exponent)
                self.assertEqual(rests_of(divisor, exponent), told, (divisor, exponent))

    def test_great_divisors(self):
        for divisor in (512, 729, 841, 961, 997, 999, 1000):
            for exponent in (2, 3, 7, 200):
                told = rests_by_going_through_all(divisor, exponent)
                self.assertEqual(rests_of(divisor, exponent), told, (divisor, exponent))

    def test_divisors_one_and_two(self):
        for exponent in (2, 3, 200):
            self.assertEqual(rests_of(1, exponent), (0,))
            self.assertEqual(rests_of(2, exponent), (0, 1))

    def test_primes(self):
        self.assertEqual(rests_of(7, 2), (0, 1, 2, 4))
        self.assertEqual(rests_of(7, 3), (0, 1, 6))
        self.assertEqual(rests_of(5, 3), (0, 1, 2, 3, 4))
        self.assertEqual(rests_of(11, 200), (0, 1))
        self.assertEqual(len(rests_of(997, 2)), 499)

    def test_powers_of_two_and_three(self):
        self.assertEqual(rests_of(8, 2), (0, 1, 4))
        self.assertEqual(rests_of(16, 2), (0, 1, 4, 9))
        self.assertEqual(rests_of(16, 3), (0, 1, 3, 5, 7, 8, 9, 11, 13, 15))
        self.assertEqual(rests_of(16, 200), (0, 1))
        self.assertEqual(rests_of(9, 2), (0, 1, 4, 7))
        self.assertEqual(rests_of(9, 3), (0, 1, 8))
        self.assertEqual(rests_of(27, 3), (0, 1, 8, 10, 17, 19, 26))

    def test_a_thousand(self):
        self.assertEqual(rests_of(1000, 200), (0, 1, 376, 625))
        self.assertEqual(len(rests_of(1000, 2)), 159)
        self.assertEqual(len(rests_of(1000, 3)), 505)

    def test_nought_is_one_and_all_are_below_the_divisor(self):
        for divisor in (1, 2, 9, 10, 64, 997, 1000):
            told = rests_of(divisor, 2)
            self.assertEqual(told[0], 0)
            self.assertLess(told[-1], divisor)

    def test_rising_each_once(self):
        for divisor in (2, 12, 81, 128, 1000):
            for exponent in (2, 3, 200):
                told = rests_of(divisor, exponent)
                self.assertEqual(list(told), sorted(set(told)))

    def test_kinds(self):
        for divisor in (1, 2, 1000):
            told = rests_of(divisor, 2)
            self.assertIs(type(told), tuple)
            self.assertEqual({type(rest) for rest in told}, {int})


class TestCountRest(unittest.TestCase):
    def test_going_through_all_bases(self):
        for exponent in (2, 3, 5):
            for divisor in (1, 2, 3, 7, 8, 12, 30):
                powers = [base ** exponent for base in range(1, 40) if base ** exponent <= 1200]
                for most in (*range(40), 63, 64, 65, 728, 729, 730, 1199, 1200):
                    for rest in range(divisor + 2):
                        told = sum(power <= most and power % divisor == rest for power in powers)
                        asked = (most, exponent, divisor, rest)
                        self.assertEqual(count_rest(*asked), told, asked)

    def test_to_nought_and_one(self):
        for exponent in (2, 3, 200):
            for divisor in (1, 2, 7, 1000):
                for rest in range(min(divisor, 12)):
                    self.assertEqual(count_rest(0, exponent, divisor, rest), 0)
                    self.assertEqual(count_rest(1, exponent, divisor, rest), int(rest == 1 % divisor))

    def test_base_nought_is_not_counted(self):
        self.assertEqual(count_rest(24, 2, 5, 0), 0)
        self.assertEqual(count_rest(25, 2, 5, 0), 1)
        self.assertEqual(count_rest(99, 2, 5, 0), 1)
        self.assertEqual(count_rest(100, 2, 5, 0), 2)

    def test_to_a_power_and_next_to_it(self):
        for base, exponent, divisor in ((9, 2, 7), (12, 3, 10), (10 ** 20, 2, 999), (2, 132, 13), (10, 40, 7)):
            power = base ** exponent
            rest = power % divisor
            many = count_rest(power, exponent, divisor, rest)
            self.assertGreater(many, 0)
            self.assertEqual(count_rest(power - 1, exponent, divisor, rest), many - 1)
            self.assertEqual(count_rest(power + 1, exponent, divisor, rest), many)

    def test_divisor_one(self):
        for most in (0, 1, 3, 4, 1000, GREAT):
            for exponent in (2, 3, 40, 200):
                self.assertEqual(count_rest(most, exponent, 1, 0), count_by(most, exponent))
                self.assertEqual(count_rest(most, exponent, 1, 1), 0)

    def test_a_rest_that_none_has(self):
        self.assertEqual(count_rest(GREAT, 2, 4, 2), 0)
        self.assertEqual(count_rest(GREAT, 2, 4, 3), 0)
        self.assertEqual(count_rest(GREAT, 3, 7, 2), 0)
        self.assertEqual(count_rest(GREAT, 2, 1000, 2), 0)

    def test_a_rest_no_less_than_the_divisor(self):
        for rest in (7, 8, 11, 14, 1000, GREAT):
            self.assertEqual(count_rest(GREAT, 2, 7, rest), 0)
        self.assertEqual(count_rest(GREAT, 2, 1, 1), 0)
        self.assertEqual(count_rest(GREAT, 2, 1000, 1000), 0)

    def test_known_ones_to_the_greatest_bound(self):
        self.assertEqual(count_rest(GREAT, 2, 2, 0), 5 * 10 ** 19)
        self.assertEqual(count_rest(GREAT, 2, 2, 1), 5 * 10 ** 19)
        self.assertEqual(count_rest(GREAT, 2, 10, 6), 2 * 10 ** 19)
        self.assertEqual(count_rest(GREAT, 2, 10, 0), 10 ** 19)
        self.assertEqual(count_rest(GREAT, 2, 10, 3), 0)
        self.assertEqual(count_rest(GREAT, 40, 11, 1), 10)
        self.assertEqual(count_rest(GREAT, 200, 2, 1), 1)
        self.assertEqual(count_rest(GREAT, 200, 2, 0), 0)

    def test_all_rests_come_together_to_all(self):
        for most in (0, 1, 63, 64, 10 ** 12, GREAT - 1, GREAT):
            for exponent in (2, 3, 10, 132, 200):
                for divisor in (1, 2, 9, 40, 97):
                    parts = [count_rest(most, exponent, divisor, rest) for rest in rests_of(divisor, exponent)]
                    self.assertEqual(sum(parts), count_by(most, exponent), (most, exponent, divisor))

    def test_all_rests_of_a_thousand(self):
        parts = [count_rest(GREAT, 3, 1000, rest) for rest in range(1002)]
        self.assertEqual(sum(parts), count_by(GREAT, 3))
        self.assertEqual(tuple(rest for rest in range(1002) if parts[rest]), rests_of(1000, 3))

    def test_kind(self):
        for asked in ((0, 2, 1, 0), (GREAT, 2, 4, 1), (GREAT, 2, 4, 2), (GREAT, 2, 4, 9)):
            self.assertIs(type(count_rest(*asked)), int)


class TestCanBe(unittest.TestCase):
    def test_going_through_the_divisors(self):
        for most in (1, 2, 3, 4, 5, 7, 8, 9, 12, 16, 20, 27):
            for exponent in (2, 3, 4, 6):
                for number in range(150):
                    told = can_be_by_going_through_all(number, exponent, most)
                    self.assertIs(can_be(number, exponent, most), told, (number, exponent, most))

    def test_going_through_the_divisors_to_the_greatest(self):
        numbers = (0, 1, 2, 16, 17, 64, 211, 10 ** 12, 10 ** 12 + 39, 2 ** 132, GREAT - 1, GREAT)
        for number in numbers:
            for exponent in (2, 3, 5, 199, 200):
                for most in (100, 199, 200):
                    told = can_be_by_going_through_all(number, exponent, most)
                    self.assertIs(can_be(number, exponent, most), told, (number, exponent, most))

    def test_nought_cannot(self):
        for exponent in (2, 3, 200):
            for most in (1, 2, 200):
                self.assertIs(can_be(0, exponent, most), False)

    def test_one_can(self):
        for exponent in (2, 3, 200):
            for most in (1, 2, 200):
                self.assertIs(can_be(1, exponent, most), True)

    def test_powers_can_by_all_divisors(self):
        for base, exponent in ((2, 2), (6, 2), (10, 3), (2, 132), (3, 83), (7, 47), (10, 40), (10 ** 20 - 11, 2)):
            for most in (1, 2, 50, 200):
                self.assertIs(can_be(base ** exponent, exponent, most), True, (base, exponent, most))

    def test_no_divisors(self):
        for number in (1, 2, 3, 5, GREAT - 1):
            for exponent in (2, 3, 200):
                self.assertIs(can_be(number, exponent, 1), True)

    def test_the_divisor_that_bars_is_the_last_one_let(self):
        # By 3 no square leaves 2.
        self.assertIs(can_be(2, 2, 2), True)
        self.assertIs(can_be(2, 2, 3), False)
        # By 4 no square leaves 2, and no third power either.
        self.assertIs(can_be(6, 2, 3), True)
        self.assertIs(can_be(6, 2, 4), False)
        self.assertIs(can_be(2, 3, 3), True)
        self.assertIs(can_be(2, 3, 4), False)

    def test_barred_by_the_power_of_a_prime_only(self):
        # By a prime to 200 each number is such a rest; by a power of one, the prime itself is none.
        self.assertIs(can_be(13, 199, 168), True)
        self.assertIs(can_be(13, 199, 169), False)
        self.assertIs(can_be(64, 199, 127), True)
        self.assertIs(can_be(64, 199, 128), False)

    def test_can_be_and_is_none(self):
        # No divisor to 200 bars it: 17 comes in each of them once at most.
        self.assertIs(can_be(17, 199, 200), True)

    def test_numbers_some_rest_bars(self):
        for number in (2, 3, 5, 6, 7, 8, 10, 11, 12, 13, 14, 15, GREAT - 1, GREAT + 1):
            self.assertIs(can_be(number, 2, 200), False, number)

    def test_kind(self):
        self.assertIs(type(can_be(0, 2, 200)), bool)
        self.assertIs(type(can_be(4, 2, 200)), bool)


class TestAskedAgain(unittest.TestCase):
    def test_the_same_behind_other_askings(self):
        asked = (1, 2, 7, 64, 200)
        first = [(rests_of(k, 3), count_rest(GREAT, 3, k, 1), can_be(k, 3, 50)) for k in asked]
        again = [(rests_of(k, 3), count_rest(GREAT, 3, k, 1), can_be(k, 3, 50)) for k in reversed(asked)]
        self.assertEqual(first, again[::-1])


class TestSoon(unittest.TestCase):
    def test_greatest_bounds(self):
        start = time.process_time()
        for left in range(20):
            rests_of(1000 - left, 200)
            count_rest(GREAT - left, 200, 1000 - left, 1)
            can_be(3 ** (80 - left), 80 - left, 200)
        self.assertLess(time.process_time() - start, SOON)


class TestInterface(unittest.TestCase):
    def test_defined_in_their_file(self):
        for function in (rests_of, count_rest, can_be):
            self.assertEqual(function.__module__, "powernumbers.counts.rests")


if __name__ == "__main__":
    unittest.main()
