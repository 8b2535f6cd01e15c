import time
import unittest

from powernumbers.counts.ordered import beside, nearest, nth_power, place_of
from powernumbers.roots.ways import is_power

FEW = 5000
GREAT = 10 ** 40
SOON = 20

# All powers to a million, and the next one behind them.
POWERS = sorted(
    {base ** exponent for exponent in range(2, 20) for base in range(1, 1002) if base ** exponent <= 1001 ** 2}
)
PLACES = (0, 1, 2, 10, 1110, 1111, 10 ** 6 - 1, 10 ** 6, 10 ** 6 + 1, 10 ** 18 - 1, 10 ** 18, 10 ** 18 + 1)
GREAT_POWERS = (2 ** 131, 2 ** 132, 3 ** 83, 7 ** 47, (10 ** 20 - 11) ** 2, (10 ** 13 + 37) ** 3, GREAT)


class TestNthPower(unittest.TestCase):
    def test_going_through_all(self):
        for place, power in enumerate(POWERS):
            self.assertEqual(nth_power(place), power, place)

    def test_first_ones(self):
        first = (1, 4, 8, 9, 16, 25, 27, 32, 36, 49, 64, 81, 100, 121, 125, 128, 144)
        self.assertEqual(tuple(nth_power(place) for place in range(len(first))), first)

    def test_each_told_power_has_its_place(self):
        for place in PLACES:
            power = nth_power(place)
            self.assertTrue(is_power(power), place)
            self.assertEqual(place_of(power), place)
            self.assertEqual(place_of(power + 1), place + 1)

    def test_those_next_to_it_stand_beside_it(self):
        for place in PLACES[1:]:
            told = (nth_power(place - 1), nth_power(place + 1))
            self.assertEqual(beside(nth_power(place)), told)

    def test_places_of_any_length(self):
        place = 3
        while place < 10 ** 18:
            power = nth_power(place)
            self.assertTrue(is_power(power), place)
            self.assertEqual(place_of(power), place)
            place = place * 3 - 1

    def test_powers_that_are_no_squares(self):
        for power in (8, 27, 2 ** 61, 3 ** 37, 7 ** 41, 10 ** 35, (10 ** 11 + 3) ** 3):
            self.assertEqual(nth_power(place_of(power)), power)

    def test_known_ones(self):
        # There are 1111 powers to 10 ** 6, and 1010196 to 10 ** 12.
        self.assertEqual(nth_power(1110), 10 ** 6)
        self.assertEqual(nth_power(1111), 1001 ** 2)
        self.assertEqual(nth_power(1010195), 10 ** 12)

    def test_kind(self):
        for place in (0, 1, 10 ** 18):
            self.assertIs(type(nth_power(place)), int)


class TestPlaceOf(unittest.TestCase):
    def test_going_through_all(self):
        less = 0
        for number in range(FEW):
            self.assertEqual(place_of(number), less, number)
            less += POWERS[less] == number

    def test_edges(self):
        for number, less in ((0, 0), (1, 0), (2, 1), (3, 1), (4, 1), (5, 2), (8, 2), (9, 3), (10, 4)):
            self.assertEqual(place_of(number), less, number)

    def test_of_great_powers_and_next_to_them(self):
        for power in GREAT_POWERS:
            less = place_of(power)
            self.assertEqual(place_of(power - 1), less)
            self.assertEqual(place_of(power + 1), less + 1)

    def test_of_the_greatest(self):
        self.assertEqual(place_of(GREAT), 100000021544442771269)

    def test_kind(self):
        for number in (0, 1, 4, GREAT):
            self.assertIs(type(place_of(number)), int)


class TestBeside(unittest.TestCase):
    def test_going_through_all(self):
        lesser = None
        at = 0
        for number in range(FEW):
            following = POWERS[at + 1] if POWERS[at] == number else POWERS[at]
            self.assertEqual(beside(number), (lesser, following), number)
            if POWERS[at] == number:
                lesser = number
                at += 1

    def test_of_powers(self):
        for at in range(1, len(POWERS) - 1):
            self.assertEqual(beside(POWERS[at]), (POWERS[at - 1], POWERS[at + 1]))

    def test_edges(self):
        self.assertEqual(beside(0), (None, 1))
        self.assertEqual(beside(1), (None, 4))
        self.assertEqual(beside(2), (1, 4))
        self.assertEqual(beside(3), (1, 4))
        self.assertEqual(beside(4), (1, 8))

    def test_eight_and_nine(self):
        self.assertEqual(beside(7), (4, 8))
        self.assertEqual(beside(8), (4, 9))
        self.assertEqual(beside(9), (8, 16))
        self.assertEqual(beside(10), (9, 16))

    def test_great_ones(self):
        root = 10 ** 20
        self.assertEqual(beside(GREAT), ((root - 1) ** 2, (root + 1) ** 2))
        self.assertEqual(beside(GREAT - 1), ((root - 1) ** 2, GREAT))
        self.assertEqual(beside(GREAT + 1), (GREAT, (root + 1) ** 2))

    def test_around_great_powers(self):
        for power in GREAT_POWERS:
            self.assertEqual(beside(power - 1)[1], power)
            self.assertEqual(beside(power + 1)[0], power)
            lesser, greater = beside(power)
            self.assertEqual(beside(lesser)[1], power)
            self.assertEqual(beside(greater)[0], power)
            self.assertEqual((place_of(lesser), place_of(greater)), (place_of(power) - 1, place_of(power) + 1))

    def test_kinds(self):
        for number in (1, 2, 4, GREAT):
            told = beside(number)
            self.assertIs(type(told), tuple)
            self.assertEqual(len(told), 2)
            self.assertIs(type(told[1]), int)
        self.assertIs(beside(0)[0], None)
        self.assertIs(beside(1)[0], None)
        self.assertIs(type(beside(2)[0]), int)


class TestNearest(unittest.TestCase):
    def test_going_through_all(self):
        powers = [power for power in POWERS if power <= 2 * FEW]
        for number in range(FEW):
            told = min(powers, key=lambda power: (abs(power - number), power))
            self.assertEqual(nearest(number), told, number)

    def test_edges(self):
        for number, near in ((0, 1), (1, 1), (2, 1), (3, 4), (4, 4), (5, 4), (7, 8), (8, 8), (9, 9), (10, 9)):
            self.assertEqual(nearest(number), near, number)

    def test_as_near_to_both(self):
        for number, lesser, greater in ((6, 4, 8), (26, 25, 27), (34, 32, 36), (123, 121, 125)):
            self.assertEqual(number - lesser, greater - number)
            self.assertEqual(nearest(number), lesser)
            self.assertEqual(nearest(number + 1), greater)

    def test_great_ones(self):
        root = 10 ** 20
        self.assertEqual(nearest(GREAT), GREAT)
        self.assertEqual(nearest(GREAT - 1), GREAT)
        self.assertEqual(nearest(GREAT + 1), GREAT)
        self.assertEqual(nearest(GREAT - root), (root - 1) ** 2)
        self.assertEqual(nearest(GREAT - root + 1), GREAT)
        self.assertEqual(nearest(GREAT + root), GREAT)
        self.assertEqual(nearest(GREAT + root + 1), (root + 1) ** 2)

    def test_of_powers_and_next_to_them(self):
        for power in GREAT_POWERS:
            for number in (power - 1, power, power + 1):
                self.assertEqual(nearest(number), power)

    def test_great_ones_as_near_to_both(self):
        # Two squares that stand beside each other are an odd number apart, so one here is none.
        found = 0
        for base in range(3, 400, 2):
            lesser, greater = beside(base ** 11)
            for low, high in ((lesser, base ** 11), (base ** 11, greater)):
                if (low + high) % 2 == 0:
                    found += 1
                    self.assertEqual(nearest((low + high) // 2), low)
                    self.assertEqual(nearest((low + high) // 2 + 1), high)
        self.assertGreater(found, 0)

    def test_kind(self):
        for number in (0, 1, 2, 6, GREAT):
            self.assertIs(type(nearest(number)), int)


class TestAskedAgain(unittest.TestCase):
    def test_the_same_behind_other_askings(self):
        asked = (0, 1, 2, 6, 64, 10 ** 18)
        first = [(nth_power(k), place_of(k), beside(k), nearest(k)) for k in asked]
        again = [(nth_power(k), place_of(k), beside(k), nearest(k)) for k in reversed(asked)]
        self.assertEqual(first, again[::-1])


class TestSoon(unittest.TestCase):
    def test_greatest_bounds(self):
        start = time.process_time()
        for left in range(20):
            nth_power(10 ** 18 - left)
            place_of(GREAT - left)
            beside(GREAT - left)
            nearest(GREAT - left)
        self.assertLess(time.process_time() - start, SOON)


class TestInterface(unittest.TestCase):
    def test_defined_in_their_file(self):
        for function in (nth_power, place_of, beside, nearest):
            self.assertEqual(function.__module__, "powernumbers.counts.ordered")


if __name__ == "__main__":
    unittest.main()
