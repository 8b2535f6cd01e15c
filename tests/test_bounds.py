import time
import unittest

from powernumbers.counts.bounds import count_by, count_to, counts_by_greatest
from powernumbers.roots.ways import greatest_way

MOST = 5000
GREAT = 10 ** 40
GREAT_BOUNDS = (
    10 ** 12, 10 ** 30, 2 ** 131, 2 ** 132 - 1, 2 ** 132, 2 ** 132 + 1, 3 ** 83, GREAT - 1, GREAT, 10 ** 50,
)
SOON = 20


def powers_by_going_through_all(exponent):
    """The powers to MOST by the exponent."""
    powers = []
    base = 1
    while base ** exponent <= MOST:
        powers.append(base ** exponent)
        base += 1
    return powers


BY_EXPONENT = {exponent: powers_by_going_through_all(exponent) for exponent in range(2, 15)}
POWERS = {power for powers in BY_EXPONENT.values() for power in powers}


def signed_factors(number):
    """Of Moebius: 0 where a square divides the number, else 1 or -1 by how many primes do."""
    sign = 1
    prime = 2
    while number > 1:
        if number % prime == 0:
            number //= prime
            sign = -sign
            if number % prime == 0:
                return 0
        prime += 1
    return sign


class TestCountTo(unittest.TestCase):
    def test_going_through_all(self):
        many = 0
        for number in range(MOST + 1):
            many += number in POWERS
            self.assertEqual(count_to(number), many, number)

    def test_edges(self):
        for number, many in ((0, 0), (1, 1), (2, 1), (3, 1), (4, 2), (7, 2), (8, 3), (9, 4), (10, 4), (16, 5)):
            self.assertEqual(count_to(number), many, number)

    def test_to_a_power_and_next_to_it(self):
        for power in (4, 64, 4096, 10 ** 12, 7 ** 47, 2 ** 131, 2 ** 132, (10 ** 20 - 11) ** 2, GREAT):
            many = count_to(power)
            self.assertEqual(count_to(power - 1), many - 1, power)
            self.assertEqual(count_to(power + 1), many, power)

    def test_great_bounds(self):
        for number in GREAT_BOUNDS:
            parts = [-signed_factors(k) * (count_by(number, k) - 1) for k in range(2, number.bit_length())]
            self.assertEqual(count_to(number), 1 + sum(parts), number)

    def test_known_counts(self):
        known = (4, 13, 41, 125, 367, 1111, 3395, 10491, 32670, 102231, 320990, 1010196)
        for figures, many in enumerate(known, start=1):
            self.assertEqual(count_to(10 ** figures), many)

    def test_greatest_bound(self):
        self.assertEqual(count_to(GREAT), 100000021544442771270)

    def test_kind(self):
        for number in (0, 1, 4, GREAT):
            self.assertIs(type(count_to(number)), int)


class TestCountBy(unittest.TestCase):
    def test_going_through_all(self):
        for exponent, powers in BY_EXPONENT.items():
            many = 0
            for number in range(MOST + 1):
                many += many < len(powers) and powers[many] == number
                self.assertEqual(count_by(number, exponent), many, (number, exponent))

    def test_to_nought_and_one(self):
        for exponent in range(2, 201):
            self.assertEqual(count_by(0, exponent), 0)
            self.assertEqual(count_by(1, exponent), 1)

    def test_edges(self):
        self.assertEqual(count_by(3, 2), 1)
        self.assertEqual(count_by(4, 2), 2)
        self.assertEqual(count_by(4, 3), 1)
        self.assertEqual(count_by(64, 2), 8)
        self.assertEqual(count_by(64, 3), 4)
        self.assertEqual(count_by(64, 6), 2)

    def test_to_a_power_and_next_to_it(self):
        for base, exponent in ((2, 2), (7, 3), (10 ** 20, 2), (10 ** 13, 3), (2, 132), (3, 83), (10, 40)):
            power = base ** exponent
            self.assertEqual(count_by(power - 1, exponent), base - 1)
            self.assertEqual(count_by(power, exponent), base)
            self.assertEqual(count_by(power + 1, exponent), base)

    def test_greatest_bound_by_every_exponent(self):
        for exponent in range(2, 201):
            many = count_by(GREAT, exponent)
            self.assertLessEqual(many ** exponent, GREAT)
            self.assertGreater((many + 1) ** exponent, GREAT)
        self.assertEqual(count_by(GREAT, 2), 10 ** 20)
        self.assertEqual(count_by(GREAT, 3), 21544346900318)
        self.assertEqual(count_by(GREAT, 132), 2)
        self.assertEqual(count_by(GREAT, 133), 1)
        self.assertEqual(count_by(GREAT, 200), 1)

    def test_kind(self):
        for number in (0, 1, 4, GREAT):
            for exponent in (2, 3, 200):
                self.assertIs(type(count_by(number, exponent)), int)


class TestCountsByGreatest(unittest.TestCase):
    def test_going_through_all(self):
        counts = {}
        for number in range(MOST + 1):
            exponent = greatest_way(number)[1]
            if exponent > 1:
                counts[exponent] = counts.get(exponent, 0) + 1
            told = tuple(counts.get(k, 0) for k in range(2, max(counts, default=1) + 1))
            self.assertEqual(counts_by_greatest(number), told, number)

    def test_edges(self):
        self.assertEqual(counts_by_greatest(0), ())
        self.assertEqual(counts_by_greatest(1), (1,))
        self.assertEqual(counts_by_greatest(2), (1,))
        self.assertEqual(counts_by_greatest(3), (1,))
        self.assertEqual(counts_by_greatest(4), (2,))
        self.assertEqual(counts_by_greatest(7), (2,))
        self.assertEqual(counts_by_greatest(8), (2, 1))
        self.assertEqual(counts_by_greatest(16), (3, 1, 1))
        self.assertEqual(counts_by_greatest(64), (6, 2, 1, 1, 1))

    def test_the_last_one_is_not_nought(self):
        for number in (*range(1, 2000), *GREAT_BOUNDS):
            self.assertGreater(counts_by_greatest(number)[-1], 0, number)

    def test_as_many_as_exponents_from_two_to_the_greatest(self):
        self.assertEqual(len(counts_by_greatest(2 ** 132 - 1)), 130)
        self.assertEqual(len(counts_by_greatest(2 ** 132)), 131)
        self.assertEqual(len(counts_by_greatest(GREAT)), 131)

    def test_parts_come_together_to_all(self):
        for number in (*range(2000), *GREAT_BOUNDS):
            self.assertEqual(sum(counts_by_greatest(number)), count_to(number), number)

    def test_those_by_an_exponent_are_one_and_all_whose_greatest_it_divides(self):
        for number in GREAT_BOUNDS:
            counts = dict(enumerate(counts_by_greatest(number), start=2))
            # 1 is counted to 2.
            counts[2] -= 1
            for exponent in range(2, 201):
                many = sum(counts[k] for k in counts if k % exponent == 0)
                self.assertEqual(count_by(number, exponent), 1 + many, (number, exponent))

    def test_kinds(self):
        for number in (0, 1, 64, GREAT):
            told = counts_by_greatest(number)
            self.assertIs(type(told), tuple)
            for many in told:
                self.assertIs(type(many), int)


class TestAskedAgain(unittest.TestCase):
    def test_the_same_behind_other_askings(self):
        asked = (0, 1, 2, 64, GREAT, GREAT - 1)
        first = [(count_to(k), count_by(k, 3), counts_by_greatest(k)) for k in asked]
        again = [(count_to(k), count_by(k, 3), counts_by_greatest(k)) for k in reversed(asked)]
        self.assertEqual(first, again[::-1])


class TestSoon(unittest.TestCase):
    def test_greatest_bounds(self):
        start = time.process_time()
        for left in range(20):
            count_to(GREAT - left)
            count_by(GREAT - left, 3)
            counts_by_greatest(GREAT - left)
        self.assertLess(time.process_time() - start, SOON)


class TestInterface(unittest.TestCase):
    def test_defined_in_their_file(self):
        for function in (count_to, count_by, counts_by_greatest):
            self.assertEqual(function.__module__, "powernumbers.counts.bounds")


if __name__ == "__main__":
    unittest.main()
