import time
import unittest
from itertools import combinations_with_replacement

from powernumbers.pairs.sums import fewest_with, pairs_with

GREAT = 10 ** 8
SMALL = 5000
FEW = 250
SOON = 20


def powers_by_going_through_all(most):
    """All powers to most, rising."""
    powers = {1}
    base = 2
    while base * base <= most:
        power = base * base
        while power <= most:
            powers.add(power)
            power *= base
        base += 1
    return sorted(powers)


GREAT_POWERS = powers_by_going_through_all(GREAT)
GREAT_MEMBERS = set(GREAT_POWERS)


def pairs_by_going_through_all(number):
    told = []
    for power in GREAT_POWERS:
        if 2 * power > number:
            break
        if number - power in GREAT_MEMBERS:
            told.append((power, number - power))
    return tuple(told)


def rows_by_going_through_all(most, lengths):
    """For each number to most that has a row of one of the lengths the greatest of the shortest ones."""
    told = {0: ()}
    falling = [power for power in GREAT_POWERS if power <= most][::-1]
    for length in lengths:
        # The rows come with the greatest first, so the first one to come to a number stays.
        for row in combinations_with_replacement(falling, length):
            if sum(row) <= most:
                told.setdefault(sum(row), row)
    return told


class TestPairsWith(unittest.TestCase):
    def test_going_through_all(self):
        for number in range(SMALL):
            self.assertEqual(pairs_with(number), pairs_by_going_through_all(number), number)

    def test_going_through_all_to_great_numbers(self):
        number = 5
        while number <= GREAT:
            for near in (number - 1, number, number + 1):
                self.assertEqual(pairs_with(near), pairs_by_going_through_all(near), near)
            number *= 5
        for number in (5 ** 2 * 13 * 17 * 29 * 37 * 2, GREAT - 2, GREAT - 1, GREAT):
            self.assertEqual(pairs_with(number), pairs_by_going_through_all(number), number)

    def test_edges(self):
        self.assertEqual(pairs_with(0), ())
        self.assertEqual(pairs_with(1), ())
        self.assertEqual(pairs_with(2), ((1, 1),))
        self.assertEqual(pairs_with(3), ())
        self.assertEqual(pairs_with(4), ())
        self.assertEqual(pairs_with(5), ((1, 4),))
        self.assertEqual(pairs_with(8), ((4, 4),))
        self.assertEqual(pairs_with(9), ((1, 8),))

    def test_two_alike(self):
        for power in (1, 4, 8, 9, 27, 10 ** 6, 7 ** 8, 5 * 10 ** 7 - 5 * 10 ** 7 % 7071 ** 2):
            self.assertIn((power, power), pairs_with(2 * power))
            self.assertEqual(pairs_with(2 * power).count((power, power)), 1)

    def test_none(self):
        for number in (3, 4, 6, 7, 11, 15, 19, 21, 22, 23):
            self.assertEqual(pairs_with(number), ())

    def test_many(self):
        self.assertEqual(pairs_with(17), ((1, 16), (8, 9)))
        self.assertEqual(pairs_with(65), ((1, 64), (16, 49)))
        self.assertEqual(pairs_with(128), ((64, 64),))
        self.assertGreater(len(pairs_with(5 ** 2 * 13 * 17 * 29 * 37 * 2)), 5)

    def test_a_power_itself_needs_another_one(self):
        self.assertEqual(pairs_with(16), ((8, 8),))
        self.assertEqual(pairs_with(25), ((9, 16),))
        self.assertEqual(pairs_with(49), ())

    def test_lesser_first_and_rising(self):
        for number in (65, 1105, 5 ** 11, GREAT):
            told = pairs_with(number)
            self.assertEqual(list(told), sorted(set(told)))
            for p, q in told:
                self.assertLessEqual(p, q)
                self.assertEqual(p + q, number)

    def test_kinds(self):
        for number in (0, 1, 2, 65, GREAT):
            told = pairs_with(number)
            self.assertIs(type(told), tuple)
            for pair in told:
                self.assertIs(type(pair), tuple)
                self.assertEqual([type(part) for part in pair], [int, int])


class TestFewestWith(unittest.TestCase):
    def test_going_through_all_rows(self):
        told = rows_by_going_through_all(FEW, (1, 2, 3, 4))
        self.assertEqual(len(told), FEW + 1)
        for number in range(FEW + 1):
            self.assertEqual(fewest_with(number), told[number], number)

    def test_going_through_all_rows_of_three_to_the_greatest_bound(self):
        told = rows_by_going_through_all(SMALL, (1, 2, 3))
        longer = []
        for number in range(SMALL + 1):
            row = fewest_with(number)
            if number in told:
                self.assertEqual(row, told[number], number)
            else:
                longer.append(number)
                first = max(power for power in GREAT_POWERS if len(told.get(number - power, ())) == 3)
                self.assertEqual(row, (first, *told[number - first]), number)
        self.assertEqual(longer, [7, 15, 23, 87, 111, 119, 167, 335, 1391, 1455, 1607, 1679, 1991])

    def test_edges(self):
        self.assertEqual(fewest_with(0), ())
        self.assertEqual(fewest_with(1), (1,))
        self.assertEqual(fewest_with(2), (1, 1))
        self.assertEqual(fewest_with(3), (1, 1, 1))
        self.assertEqual(fewest_with(4), (4,))
        self.assertEqual(fewest_with(5), (4, 1))
        self.assertEqual(fewest_with(6), (4, 1, 1))
        self.assertEqual(fewest_with(7), (4, 1, 1, 1))
        self.assertEqual(fewest_with(8), (8,))

    def test_a_power_is_its_own_row(self):
        for power in GREAT_POWERS:
            if power <= SMALL:
                self.assertEqual(fewest_with(power), (power,))

    def test_alike_ones_are_let(self):
        self.assertEqual(fewest_with(18), (9, 9))
        self.assertEqual(fewest_with(98), (49, 49))
        self.assertEqual(fewest_with(3), (1, 1, 1))
        self.assertEqual(fewest_with(22), (9, 9, 4))

    def test_the_greatest_of_rows_with_so_few(self):
        self.assertEqual(fewest_with(17), (16, 1))
        self.assertEqual(fewest_with(65), (64, 1))
        self.assertEqual(fewest_with(50), (49, 1))
        self.assertEqual(fewest_with(5000), (4900, 100))

    def test_fewer_are_told_before_greater(self):
        # The rows (9, 1, 1, 1), (16, 1, 1) and (225, 16, 1) begin with a greater one, and are longer.
        self.assertEqual(fewest_with(12), (8, 4))
        self.assertEqual(fewest_with(18), (9, 9))
        self.assertEqual(fewest_with(242), (121, 121))

    def test_falling_rows_that_come_to_the_number(self):
        for number in range(0, SMALL + 1, 7):
            row = fewest_with(number)
            self.assertEqual(sum(row), number)
            self.assertEqual(list(row), sorted(row, reverse=True))
            for power in row:
                self.assertIn(power, GREAT_MEMBERS)

    def test_kinds(self):
        for number in (0, 1, 7, 100, SMALL):
            told = fewest_with(number)
            self.assertIs(type(told), tuple)
            for power in told:
                self.assertIs(type(power), int)


class TestAskedAgain(unittest.TestCase):
    def test_the_same_behind_other_askings(self):
        asked = (0, 1, 2, 17, 65, 1991, SMALL)
        first = [(pairs_with(k), fewest_with(k)) for k in asked]
        again = [(pairs_with(k), fewest_with(k)) for k in reversed(asked)]
        self.assertEqual(first, again[::-1])


class TestSoon(unittest.TestCase):
    def test_greatest_bounds(self):
        start = time.process_time()
        for left in range(20):
            pairs_with(GREAT - left)
            fewest_with(SMALL - left)
        self.assertLess(time.process_time() - start, SOON)


class TestInterface(unittest.TestCase):
    def test_defined_in_their_file(self):
        for function in (pairs_with, fewest_with):
            self.assertEqual(function.__module__, "powernumbers.pairs.sums")


if __name__ == "__main__":
    unittest.main()
