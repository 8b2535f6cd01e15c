import unittest

from powernumbers.roots.ways import greatest_way, is_power, ways_of

MOST = 5000
GREAT = 10 ** 40


def ways_by_going_through_all():
    """For each number to MOST the list of its ways, by rising exponents."""
    told = {number: [] for number in range(MOST + 1)}
    told[1].append((1, 2))
    for exponent in range(2, MOST.bit_length() + 1):
        base = 2
        while base ** exponent <= MOST:
            told[base ** exponent].append((base, exponent))
            base += 1
    return told


WAYS = ways_by_going_through_all()


class TestSmallNumbers(unittest.TestCase):
    def test_is_power(self):
        for number, ways in WAYS.items():
            self.assertIs(is_power(number), len(ways) > 0, number)

    def test_ways_of(self):
        for number, ways in WAYS.items():
            self.assertEqual(ways_of(number), tuple(ways), number)

    def test_greatest_way(self):
        for number, ways in WAYS.items():
            told = ways[-1] if ways else (number, 1)
            self.assertEqual(greatest_way(number), told, number)


class TestIsPower(unittest.TestCase):
    def test_edges(self):
        self.assertIs(is_power(0), False)
        self.assertIs(is_power(1), True)
        self.assertIs(is_power(2), False)
        for number in (4, 8, 9, 16, 25, 27, 64):
            self.assertIs(is_power(number), True)

    def test_great_powers_and_next_to_them(self):
        for power in (2 ** 132, GREAT, 3 ** 83, 7 ** 47, (10 ** 20 - 11) ** 2, 2 ** 131):
            self.assertIs(is_power(power), True)
            self.assertIs(is_power(power - 1), False)
            self.assertIs(is_power(power + 1), False)

    def test_powers_side_by_side(self):
        self.assertIs(is_power(8), True)
        self.assertIs(is_power(9), True)

    def test_great_numbers_that_are_almost_powers(self):
        self.assertIs(is_power(2 ** 131 * 3), False)
        self.assertIs(is_power(2 ** 64 * 3 ** 27), False)
        self.assertIs(is_power(2 ** 66 * 3 ** 33), True)


class TestWaysOf(unittest.TestCase):
    def test_edges(self):
        self.assertEqual(ways_of(0), ())
        self.assertEqual(ways_of(1), ((1, 2),))
        self.assertEqual(ways_of(2), ())
        self.assertEqual(ways_of(4), ((2, 2),))
        self.assertEqual(ways_of(16), ((4, 2), (2, 4)))
        self.assertEqual(ways_of(64), ((8, 2), (4, 3), (2, 6)))

    def test_great_powers(self):
        exponents = (2, 3, 4, 6, 11, 12, 22, 33, 44, 66, 132)
        self.assertEqual(ways_of(2 ** 132), tuple((2 ** (132 // k), k) for k in exponents))
        exponents = (2, 4, 5, 8, 10, 20, 40)
        self.assertEqual(ways_of(GREAT), tuple((10 ** (40 // k), k) for k in exponents))
        self.assertEqual(ways_of(2 ** 131), ((2, 131),))
        self.assertEqual(ways_of((10 ** 20 - 11) ** 2), ((10 ** 20 - 11, 2),))

    def test_next_to_great_powers(self):
        for power in (2 ** 132, GREAT, 2 ** 131):
            self.assertEqual(ways_of(power - 1), ())
            self.assertEqual(ways_of(power + 1), ())

    def test_every_power_of_small_bases(self):
        for base in (2, 3, 5, 6, 7, 10, 12, 97):
            exponent = 2
            while base ** exponent <= GREAT:
                told = tuple(
                    (base ** (exponent // k), k) for k in range(2, exponent + 1) if exponent % k == 0
                )
                self.assertEqual(ways_of(base ** exponent), told)
                self.assertEqual(greatest_way(base ** exponent), (base, exponent))
                exponent += 1

    def test_kinds(self):
        for number in (0, 1, 2, 4, 64, GREAT):
            told = ways_of(number)
            self.assertIs(type(told), tuple)
            for pair in told:
                self.assertIs(type(pair), tuple)
                self.assertEqual([type(part) for part in pair], [int, int])

    def test_exponents_rise_from_two_on(self):
        for number in (4, 64, 2 ** 60, 2 ** 132, GREAT):
            exponents = [pair[1] for pair in ways_of(number)]
            self.assertEqual(exponents, sorted(set(exponents)))
            self.assertGreaterEqual(exponents[0], 2)


class TestGreatestWay(unittest.TestCase):
    def test_edges(self):
        self.assertEqual(greatest_way(0), (0, 1))
        self.assertEqual(greatest_way(1), (1, 2))
        self.assertEqual(greatest_way(2), (2, 1))
        self.assertEqual(greatest_way(3), (3, 1))
        self.assertEqual(greatest_way(4), (2, 2))
        self.assertEqual(greatest_way(8), (2, 3))
        self.assertEqual(greatest_way(64), (2, 6))
        self.assertEqual(greatest_way(36), (6, 2))

    def test_great_powers_and_next_to_them(self):
        for base, exponent in ((2, 132), (10, 40), (2, 131), (6, 51), (10 ** 20 - 11, 2), (11, 37)):
            power = base ** exponent
            self.assertEqual(greatest_way(power), (base, exponent))
            self.assertEqual(greatest_way(power - 1), (power - 1, 1))
            self.assertEqual(greatest_way(power + 1), (power + 1, 1))

    def test_base_that_is_a_power_itself(self):
        self.assertEqual(greatest_way(4 ** 33), (2, 66))
        self.assertEqual(greatest_way(1000 ** 13), (10, 39))
        self.assertEqual(greatest_way((2 ** 60) ** 2), (2, 120))

    def test_great_primes(self):
        for number in (2 ** 61 - 1, 2 ** 89 - 1, 2 ** 107 - 1, 2 ** 127 - 1):
            self.assertEqual(greatest_way(number), (number, 1))

    def test_beyond_the_limits(self):
        self.assertEqual(greatest_way(3 ** 211), (3, 211))
        self.assertEqual(greatest_way(2 ** 600 + 1), (2 ** 600 + 1, 1))

    def test_kinds(self):
        for number in (0, 1, 2, 4, GREAT):
            told = greatest_way(number)
            self.assertIs(type(told), tuple)
            self.assertEqual([type(part) for part in told], [int, int])


class TestAskedAgain(unittest.TestCase):
    def test_the_same_behind_other_askings(self):
        asked = (0, 1, 2, 16, 36, 64, 2 ** 132, GREAT, GREAT - 1)
        first = [(is_power(k), ways_of(k), greatest_way(k)) for k in asked]
        again = [(is_power(k), ways_of(k), greatest_way(k)) for k in reversed(asked)]
        self.assertEqual(first, again[::-1])


class TestInterface(unittest.TestCase):
    def test_defined_in_their_file(self):
        for function in (is_power, ways_of, greatest_way):
            self.assertEqual(function.__module__, "powernumbers.roots.ways")


if __name__ == "__main__":
    unittest.main()
