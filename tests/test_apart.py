import time
import unittest
from bisect import bisect_right

from powernumbers.pairs.apart import greatest_gap, pairs_apart

FAIR = 10 ** 12
SMALL = 10 ** 6
SOON = 20


def powers_by_going_through_all(most, greatest_root):
    """All powers to most, rising; greatest_root is the base of its greatest square."""
    powers = {1}
    for base in range(2, greatest_root + 1):
        power = base * base
        while power <= most:
            powers.add(power)
            power *= base
    return sorted(powers)


FAIR_POWERS = powers_by_going_through_all(FAIR, 10 ** 6)
FAIR_MEMBERS = set(FAIR_POWERS)
SMALL_POWERS = powers_by_going_through_all(SMALL, 1000)


def pairs_by_going_through_all(difference, most):
    powers = FAIR_POWERS[:bisect_right(FAIR_POWERS, most - difference)]
    return tuple((power, power + difference) for power in powers if power + difference in FAIR_MEMBERS)


class TestPairsApart(unittest.TestCase):
    def test_going_through_all(self):
        for most in (*range(40), 64, 127, 128, 1000, 5000):
            for difference in range(1, 140):
                told = pairs_by_going_through_all(difference, most)
                self.assertEqual(pairs_apart(difference, most), told, (difference, most))

    def test_going_through_all_to_great_bounds(self):
        differences = (1, 2, 3, 4, 7, 17, 60, 1000, 720720, 10 ** 6, 1999999, 10 ** 9, 6983776800, FAIR // 4)
        for difference in differences:
            for most in (10 ** 9, FAIR):
                told = pairs_by_going_through_all(difference, most)
                self.assertEqual(pairs_apart(difference, most), told, (difference, most))

    def test_small_differences(self):
        self.assertEqual(pairs_apart(1, FAIR), ((8, 9),))
        self.assertEqual(pairs_apart(2, FAIR), ((25, 27),))
        self.assertEqual(pairs_apart(3, FAIR), ((1, 4), (125, 128)))
        self.assertEqual(pairs_apart(7, FAIR), ((1, 8), (9, 16), (25, 32), (121, 128), (32761, 32768)))

    def test_none(self):
        self.assertEqual(pairs_apart(6, FAIR), ())
        self.assertEqual(pairs_apart(14, FAIR), ())

    def test_bounds_nought_and_one(self):
        for difference in (1, 2, 3, 7, 10 ** 6, FAIR):
            self.assertEqual(pairs_apart(difference, 0), ())
            self.assertEqual(pairs_apart(difference, 1), ())

    def test_both_to_the_bound_and_this_included(self):
        self.assertEqual(pairs_apart(1, 7), ())
        self.assertEqual(pairs_apart(1, 8), ())
        self.assertEqual(pairs_apart(1, 9), ((8, 9),))
        self.assertEqual(pairs_apart(3, 4), ((1, 4),))
        self.assertEqual(pairs_apart(3, 3), ())
        self.assertEqual(pairs_apart(3, 127), ((1, 4),))
        self.assertEqual(pairs_apart(3, 128), ((1, 4), (125, 128)))
        self.assertEqual(pairs_apart(7, 8), ((1, 8),))
        self.assertEqual(pairs_apart(7, 15), ((1, 8),))
        self.assertEqual(pairs_apart(7, 16), ((1, 8), (9, 16)))

    def test_greatest_difference(self):
        self.assertEqual(pairs_apart(FAIR, FAIR), ())
        self.assertEqual(pairs_apart(FAIR - 1, FAIR), ((1, FAIR),))
        self.assertEqual(pairs_apart(FAIR - 1, FAIR - 1), ())
        self.assertEqual(pairs_apart(FAIR - 8, FAIR), ((8, FAIR),))

    def test_nought_is_no_power(self):
        for difference in (1, 4, 8, 9, 16, 64, FAIR):
            for p, q in pairs_apart(difference, FAIR):
                self.assertGreater(p, 0)
                self.assertEqual(q - p, difference)
        self.assertEqual(pairs_apart(4, 4), ())
        self.assertEqual(pairs_apart(8, 8), ())

    def test_powers_with_more_than_one_way_once(self):
        self.assertEqual(pairs_apart(63, 64), ((1, 64),))
        self.assertEqual(pairs_apart(17, 81), ((8, 25), (32, 49), (64, 81)))
        self.assertEqual(pairs_apart(665, 729).count((64, 729)), 1)
        self.assertEqual(pairs_apart(4096 - 64, 4096).count((64, 4096)), 1)

    def test_rising(self):
        for difference in (7, 10 ** 6, 720720):
            told = pairs_apart(difference, FAIR)
            self.assertGreater(len(told), 3)
            self.assertEqual(list(told), sorted(set(told)))

    def test_kinds(self):
        for difference, most in ((1, 0), (7, FAIR), (10 ** 6, FAIR), (FAIR, FAIR)):
            told = pairs_apart(difference, most)
            self.assertIs(type(told), tuple)
            for pair in told:
                self.assertIs(type(pair), tuple)
                self.assertEqual([type(part) for part in pair], [int, int])


class TestGreatestGap(unittest.TestCase):
    def test_going_through_all(self):
        gaps = []
        for most in range(3000):
            if most in FAIR_MEMBERS and most > 1:
                before = SMALL_POWERS[len(gaps)]
                gaps.append((most - before, before, most))
            told = max(gaps, key=lambda gap: (gap[0], -gap[1]), default=None)
            self.assertEqual(greatest_gap(most), told, most)

    def test_going_through_all_powers_to_a_million(self):
        told = None
        for p, q in zip(SMALL_POWERS, SMALL_POWERS[1:]):
            self.assertEqual(greatest_gap(q - 1), told)
            if told is None or q - p > told[0]:
                told = (q - p, p, q)
            self.assertEqual(greatest_gap(q), told)

    def test_none_where_there_are_no_two(self):
        for most in (0, 1, 2, 3):
            self.assertIs(greatest_gap(most), None)

    def test_edges(self):
        self.assertEqual(greatest_gap(4), (3, 1, 4))
        self.assertEqual(greatest_gap(7), (3, 1, 4))
        self.assertEqual(greatest_gap(8), (4, 4, 8))
        self.assertEqual(greatest_gap(9), (4, 4, 8))
        self.assertEqual(greatest_gap(15), (4, 4, 8))
        self.assertEqual(greatest_gap(16), (7, 9, 16))
        self.assertEqual(greatest_gap(32), (9, 16, 25))

    def test_to_the_greatest_bound(self):
        self.assertEqual(greatest_gap(SMALL), (1999, 998001, SMALL))
        self.assertEqual(greatest_gap(SMALL - 1), (1997, 996004, 998001))

    def test_kinds(self):
        for most in (4, 100, SMALL):
            told = greatest_gap(most)
            self.assertIs(type(told), tuple)
            self.assertEqual([type(part) for part in told], [int, int, int])


class TestAskedAgain(unittest.TestCase):
    def test_the_same_behind_other_askings(self):
        asked = (1, 7, 16, 1000, 10 ** 6)
        first = [(pairs_apart(k, SMALL), greatest_gap(k)) for k in asked]
        again = [(pairs_apart(k, SMALL), greatest_gap(k)) for k in reversed(asked)]
        self.assertEqual(first, again[::-1])


class TestSoon(unittest.TestCase):
    def test_greatest_bounds(self):
        start = time.process_time()
        for left in range(10):
            pairs_apart(1 + left, FAIR)
            pairs_apart(FAIR - left, FAIR)
            pairs_apart(FAIR // 4 - left, FAIR)
            greatest_gap(SMALL - left)
        self.assertLess(time.process_time() - start, SOON)


class TestInterface(unittest.TestCase):
    def test_defined_in_their_file(self):
        for function in (pairs_apart, greatest_gap):
            self.assertEqual(function.__module__, "powernumbers.pairs.apart")


if __name__ == "__main__":
    unittest.main()
