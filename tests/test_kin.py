import time
import unittest
from math import gcd

from powernumbers.counts.kin import count_free, count_full, greatest_in, is_free, is_full, next_full

MOST = 4000
FAIR = 10 ** 12
SMALL = 10 ** 6
EXPONENTS = (2, 3, 4, 5, 11, 12, 40, 200)
SOON = 20

# The greatest primes to 10 ** 6, 10 ** 4 and 10 ** 12, and others.
PRIMES = (2, 3, 5, 97, 9973, 99991, 999983, 999999999989)


def primes_by_going_through_all(number):
    """By prime how often it divides the number."""
    times = {}
    divisor = 2
    while number > 1:
        while number % divisor == 0:
            times[divisor] = times.get(divisor, 0) + 1
            number //= divisor
        divisor += 1
    return times


def full_by_going_through_all(most):
    return {number for number in range(1, most + 1) if all(
        times > 1 for times in primes_by_going_through_all(number).values()
    )}


def greatest_by_going_through_all(number, exponent):
    base = greatest = 1
    while base ** exponent <= number:
        if number % base ** exponent == 0:
            greatest = base
        base += 1
    return greatest


def full_to(most):
    """All full numbers to most, from squares times third powers."""
    told = set()
    cube = 1
    while cube ** 3 <= most:
        square = 1
        while square ** 2 * cube ** 3 <= most:
            told.add(square ** 2 * cube ** 3)
            square += 1
        cube += 1
    return sorted(told)


FULL = full_by_going_through_all(MOST)
FULL_TO_A_MILLION = full_to(1001 ** 2)


class TestIsFull(unittest.TestCase):
    def test_going_through_all(self):
        for number in range(1, MOST + 1):
            self.assertIs(is_full(number), number in FULL, number)

    def test_one_and_first_ones(self):
        first = tuple(number for number in range(1, 110) if is_full(number))
        self.assertEqual(first, (1, 4, 8, 9, 16, 25, 27, 32, 36, 49, 64, 72, 81, 100, 108))

    def test_primes(self):
        for prime in PRIMES:
            self.assertIs(is_full(prime), False, prime)

    def test_squares_and_third_powers(self):
        for base in (2, 3, 6, 97, 9973, 9999, 10000):
            self.assertIs(is_full(base ** 2), True, base)
            self.assertIs(is_full(base ** 3), True, base)
        for base in (99991, 999983, 999979, 999999, SMALL):
            self.assertIs(is_full(base ** 2), True, base)

    def test_squares_times_third_powers(self):
        for square, cube in ((2, 3), (3, 2), (5, 7), (97, 2), (999, 100), (31607, 10), (353553, 2), (31, 997)):
            number = square ** 2 * cube ** 3
            self.assertLessEqual(number, FAIR)
            self.assertIs(is_full(number), True, number)

    def test_such_times_a_prime(self):
        for square, cube in ((2, 3), (3, 2), (5, 7), (97, 2), (99, 10)):
            for prime in (11, 89, 101, 9973):
                number = square ** 2 * cube ** 3 * prime
                if gcd(square * cube, prime) == 1:
                    self.assertIs(is_full(number), False, number)
                    self.assertIs(is_full(number * prime), True, number)

    def test_great_ones_with_great_primes(self):
        self.assertIs(is_full(999983 ** 2), True)
        self.assertIs(is_full(999983 * 999979), False)
        self.assertIs(is_full(9973 ** 3), True)
        self.assertIs(is_full(9973 ** 2 * 9967), False)
        self.assertIs(is_full(9973 * 9967 ** 2), False)
        self.assertIs(is_full(997 ** 4), True)
        self.assertIs(is_full(997 ** 2 * 991 ** 2), True)
        self.assertIs(is_full(997 ** 3 * 991), False)
        self.assertIs(is_full(4 * 499979 ** 2), True)
        self.assertIs(is_full(2 * 499979 ** 2), False)
        self.assertIs(is_full(8 * 4999 ** 3), True)
        self.assertIs(is_full(4 * 249999999979), False)
        self.assertIs(is_full(101 * 103 * 107 * 109), False)

    def test_greatest(self):
        self.assertIs(is_full(FAIR), True)
        self.assertIs(is_full(FAIR - 1), False)

    def test_kind(self):
        for number in (1, 2, 4, 12, FAIR):
            self.assertIs(type(is_full(number)), bool)


class TestCountFull(unittest.TestCase):
    def test_going_through_all(self):
        many = 0
        for most in range(MOST + 1):
            many += most in FULL
            self.assertEqual(count_full(most), many, most)

    def test_edges(self):
        for most, many in ((0, 0), (1, 1), (3, 1), (4, 2), (7, 2), (8, 3), (9, 4), (71, 11), (72, 12)):
            self.assertEqual(count_full(most), many, most)

    def test_known_counts(self):
        known = (4, 14, 54, 185, 619, 2027, 6553, 21044, 67231, 214122, 680330, 2158391)
        for figures, many in enumerate(known, start=1):
            self.assertEqual(count_full(10 ** figures), many)

    def test_to_a_full_one_and_next_to_it(self):
        for number in (72, 108, 9973 ** 3, 999983 ** 2, 997 ** 2 * 991 ** 2, 353553 ** 2 * 8, FAIR):
            many = count_full(number)
            self.assertEqual(count_full(number - 1), many - 1, number)
            self.assertEqual(count_full(number + 1), many, number)

    def test_kind(self):
        for most in (0, 1, FAIR):
            self.assertIs(type(count_full(most)), int)


class TestNextFull(unittest.TestCase):
    def test_going_through_all(self):
        for number in range(MOST - 200):
            self.assertEqual(next_full(number), min(full for full in FULL if full > number), number)

    def test_going_through_all_full_ones_to_a_million(self):
        for lesser, greater in zip(FULL_TO_A_MILLION, FULL_TO_A_MILLION[1:]):
            self.assertEqual(next_full(lesser), greater)
            self.assertEqual(next_full(greater - 1), greater)

    def test_edges(self):
        for number, greater in ((0, 1), (1, 4), (2, 4), (3, 4), (4, 8), (8, 9), (9, 16), (71, 72), (72, 81)):
            self.assertEqual(next_full(number), greater, number)

    def test_about_a_million(self):
        for number in (*range(SMALL - 2100, SMALL + 1, 25), SMALL - 1, SMALL):
            self.assertEqual(next_full(number), min(full for full in FULL_TO_A_MILLION if full > number))
        self.assertEqual(next_full(SMALL - 1), SMALL)

    def test_it_is_full_and_none_stands_between(self):
        for number in (0, 5, 1000, 65535, 998000, SMALL):
            greater = next_full(number)
            self.assertIs(is_full(greater), True)
            self.assertEqual(count_full(greater), count_full(number) + 1)

    def test_kind(self):
        for number in (0, 1, SMALL):
            self.assertIs(type(next_full(number)), int)


class TestIsFree(unittest.TestCase):
    def test_going_through_all(self):
        for exponent in EXPONENTS:
            for number in range(1, MOST + 1):
                told = all(number % base ** exponent for base in range(2, 64) if base ** exponent <= number)
                self.assertIs(is_free(number, exponent), told, (number, exponent))

    def test_one(self):
        for exponent in EXPONENTS:
            self.assertIs(is_free(1, exponent), True)

    def test_primes(self):
        for prime in PRIMES:
            for exponent in EXPONENTS:
                self.assertIs(is_free(prime, exponent), True)

    def test_squares_of_primes(self):
        for prime in (2, 3, 97, 9973, 99991, 999983):
            self.assertIs(is_free(prime ** 2, 2), False)
            self.assertIs(is_free(prime ** 2, 3), True)

    def test_third_powers_of_primes(self):
        for prime in (2, 3, 97, 9967, 9973):
            self.assertIs(is_free(prime ** 3, 2), False)
            self.assertIs(is_free(prime ** 3, 3), False)
            self.assertIs(is_free(prime ** 3, 4), True)

    def test_a_great_square(self):
        self.assertIs(is_free(499979 ** 2 * 3, 2), False)
        self.assertIs(is_free(99991 ** 2 * 97, 2), False)
        self.assertIs(is_free(99991 ** 2 * 97, 3), True)
        self.assertIs(is_free(9973 ** 2 * 9967, 2), False)
        self.assertIs(is_free(9973 * 9967 * 9949, 2), True)
        self.assertIs(is_free(999983 * 999979, 2), True)

    def test_great_exponents(self):
        self.assertIs(is_free(2 ** 39, 40), True)
        self.assertIs(is_free(2 ** 39, 39), False)
        self.assertIs(is_free(FAIR, 12), False)
        self.assertIs(is_free(FAIR, 13), True)
        self.assertIs(is_free(FAIR, 40), True)
        self.assertIs(is_free(FAIR, 200), True)
        # Beyond the bound a fortieth power divides, too.
        self.assertIs(is_free(2 ** 40, 40), False)

    def test_kind(self):
        for number in (1, 4, FAIR):
            for exponent in (2, 200):
                self.assertIs(type(is_free(number, exponent)), bool)


class TestCountFree(unittest.TestCase):
    def test_going_through_all(self):
        for exponent in EXPONENTS:
            many = 0
            for most in range(1, 1500):
                many += greatest_by_going_through_all(most, exponent) == 1
                self.assertEqual(count_free(most, exponent), many, (most, exponent))

    def test_to_nought_and_one(self):
        for exponent in EXPONENTS:
            self.assertEqual(count_free(0, exponent), 0)
            self.assertEqual(count_free(1, exponent), 1)

    def test_edges(self):
        self.assertEqual(count_free(3, 2), 3)
        self.assertEqual(count_free(4, 2), 3)
        self.assertEqual(count_free(5, 2), 4)
        self.assertEqual(count_free(36, 2), 23)
        self.assertEqual(count_free(7, 3), 7)
        self.assertEqual(count_free(8, 3), 7)

    def test_known_counts(self):
        known = (7, 61, 608, 6083, 60794, 607926, 6079291, 60792694, 607927124)
        for figures, many in enumerate(known, start=1):
            self.assertEqual(count_free(10 ** figures, 2), many)
        self.assertEqual(count_free(10 ** 9, 3), 831907372)

    def test_great_exponents(self):
        self.assertEqual(count_free(10 ** 9, 29), 10 ** 9 - 1)
        self.assertEqual(count_free(10 ** 9, 30), 10 ** 9)
        self.assertEqual(count_free(10 ** 9, 200), 10 ** 9)
        self.assertEqual(count_free(2 ** 29, 29), 2 ** 29 - 1)
        self.assertEqual(count_free(2 ** 29 - 1, 29), 2 ** 29 - 1)

    def test_next_to_great_numbers(self):
        for number in (10 ** 9, 31607 ** 2, 31607 ** 2 - 1, 997 ** 3, 10 ** 9 - 1):
            for exponent in (2, 3):
                many = count_free(number, exponent) - count_free(number - 1, exponent)
                self.assertEqual(many, int(is_free(number, exponent)), (number, exponent))

    def test_kind(self):
        for most in (0, 1, 10 ** 9):
            self.assertIs(type(count_free(most, 3)), int)


class TestGreatestIn(unittest.TestCase):
    def test_going_through_the_bases(self):
        for exponent in EXPONENTS:
            for number in range(1, MOST + 1):
                told = greatest_by_going_through_all(number, exponent)
                self.assertEqual(greatest_in(number, exponent), told, (number, exponent))

    def test_going_through_the_bases_of_great_numbers(self):
        for number in (FAIR, FAIR - 1, 720720 ** 2, 2 ** 39, 3 ** 25, 6 ** 15, 9973 ** 3, 999983 ** 2, 4 * 499979 ** 2):
            for exponent in (2, 3, 4, 6):
                told = greatest_by_going_through_all(number, exponent)
                self.assertEqual(greatest_in(number, exponent), told, (number, exponent))

    def test_one_where_free(self):
        for number in (1, 2, 6, 999999999989, 999983 * 999979, 9973 * 9967 * 9949):
            for exponent in EXPONENTS:
                self.assertEqual(greatest_in(number, exponent), 1)

    def test_squares_of_great_bases_times_a_number(self):
        for base in (99991, 99990, 316227, 9973 * 29, 2 ** 17):
            for factor in (1, 2, 3, 7):
                self.assertEqual(greatest_in(base ** 2 * factor, 2), base)
        self.assertEqual(greatest_in(999983 ** 2, 2), 999983)
        self.assertEqual(greatest_in(50000 ** 2 * 300, 2), 500000)

    def test_third_powers_of_great_bases_times_a_number(self):
        self.assertEqual(greatest_in(9973 ** 3, 3), 9973)
        for base in (4999, 4998, 97 * 31, 4096):
            for factor in (1, 2, 3, 7):
                self.assertEqual(greatest_in(base ** 3 * factor, 3), base)
                self.assertEqual(greatest_in(base ** 3 * factor, 40), 1)
        self.assertEqual(greatest_in(5000 ** 3 * 8, 3), 10000)

    def test_greatest(self):
        told = ((2, 10 ** 6), (3, 10 ** 4), (4, 1000), (5, 100), (6, 100), (7, 10), (12, 10), (13, 1), (200, 1))
        for exponent, greatest in told:
            self.assertEqual(greatest_in(FAIR, exponent), greatest, exponent)

    def test_kind(self):
        for number in (1, 4, FAIR):
            for exponent in (2, 200):
                self.assertIs(type(greatest_in(number, exponent)), int)


class TestAskedAgain(unittest.TestCase):
    def test_the_same_behind_other_askings(self):
        asked = (1, 4, 72, 1000, SMALL)
        first = [self.all_told(k) for k in asked]
        again = [self.all_told(k) for k in reversed(asked)]
        self.assertEqual(first, again[::-1])

    def all_told(self, number):
        return (
            is_full(number), count_full(number), next_full(number),
            is_free(number, 2), count_free(number, 2), greatest_in(number, 3),
        )


class TestSoon(unittest.TestCase):
    def test_greatest_bounds(self):
        start = time.process_time()
        for left in range(20):
            is_full(FAIR - left)
            count_full(FAIR - left)
            next_full(SMALL - left)
            is_free(FAIR - left, 2)
            count_free(10 ** 9 - left, 2)
            greatest_in(FAIR - left, 2)
        self.assertLess(time.process_time() - start, SOON)


class TestInterface(unittest.TestCase):
    def test_defined_in_their_file(self):
        for function in (is_full, count_full, next_full, is_free, count_free, greatest_in):
            self.assertEqual(function.__module__, "powernumbers.counts.kin")


if __name__ == "__main__":
    unittest.main()
