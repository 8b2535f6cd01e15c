import time
import unittest
from math import gcd, isqrt, prod

from powernumbers.errors import NoAsk, NoFactor, NoNumber, PowerError
from powernumbers.kept import KeptProduct
from powernumbers.roots.exact import root_of
from powernumbers.roots.ways import greatest_way

SMALL = 10 ** 6
EXPONENTS = (2, 3, 4, 7, 10, 200)
SOON = 20


def product_of(numbers):
    product = KeptProduct()
    for number in numbers:
        product.come(number)
    return product


def all_told(product):
    return (
        product.numbers_now(),
        product.exponent_now(),
        tuple(product.lacks_now(exponent) for exponent in EXPONENTS),
    )


def primes_from(least, many):
    primes = []
    number = least
    while len(primes) < many:
        if all(number % divisor for divisor in range(2, isqrt(number) + 1)):
            primes.append(number)
        number += 1
    return primes


def lacks_by_going_through_all(worth, exponent):
    lacking = 1
    while root_of(worth * lacking, exponent)[1] != 0:
        lacking += 1
    return lacking


def many_numbers(many, most, start):
    """So many numbers from 1 to most, each from the one before: the same ones each time."""
    numbers = []
    state = start
    while len(numbers) < many:
        state = (state * 1103515245 + 12345) % 2 ** 31
        numbers.append(state // 2 ** 8 % most + 1)
    return numbers


class TestNone(unittest.TestCase):
    def test_nothing_at_first(self):
        product = KeptProduct()
        self.assertEqual(product.numbers_now(), ())
        self.assertEqual(product.exponent_now(), 2)
        for exponent in range(2, 201):
            self.assertEqual(product.lacks_now(exponent), 1)

    def test_one_alone(self):
        for numbers in ((1,), (1, 1), (1,) * 60):
            product = product_of(numbers)
            self.assertEqual(product.numbers_now(), numbers)
            self.assertEqual(product.exponent_now(), 2)
            for exponent in EXPONENTS:
                self.assertEqual(product.lacks_now(exponent), 1)

    def test_nothing_again(self):
        product = product_of((12, 999983, SMALL, 1))
        for number in (1, SMALL, 12, 999983):
            product.go(number)
        self.assertEqual(all_told(product), all_told(KeptProduct()))


class TestNumbersNow(unittest.TestCase):
    def test_rising(self):
        product = product_of((9, 2, SMALL, 1, 10, 2, 7))
        self.assertEqual(product.numbers_now(), (1, 2, 2, 7, 9, 10, SMALL))

    def test_alike_ones_go_one_at_a_time(self):
        product = product_of((6, 4, 6, 6))
        product.go(6)
        self.assertEqual(product.numbers_now(), (4, 6, 6))
        product.go(6)
        self.assertEqual(product.numbers_now(), (4, 6))
        product.go(6)
        self.assertEqual(product.numbers_now(), (4,))
        self.assertEqual(product.exponent_now(), 2)
        with self.assertRaises(NoFactor):
            product.go(6)

    def test_what_was_told_stays(self):
        product = product_of((3, 2))
        told = product.numbers_now()
        product.come(1)
        product.go(3)
        self.assertEqual(told, (2, 3))

    def test_kinds(self):
        for numbers in ((), (1,), (4, 2)):
            told = product_of(numbers).numbers_now()
            self.assertIs(type(told), tuple)
            for number in told:
                self.assertIs(type(number), int)


class TestExponentNow(unittest.TestCase):
    def test_one_number(self):
        for number in range(1, 3000):
            self.assertEqual(product_of((number,)).exponent_now(), greatest_way(number)[1], number)

    def test_several_numbers(self):
        for start in range(60):
            numbers = [2 ** (k % 4) * 3 ** (k % 3) * 5 ** (k % 2) for k in many_numbers(5, 1000, start)]
            self.assertEqual(product_of(numbers).exponent_now(), greatest_way(prod(numbers))[1], numbers)

    def test_none(self):
        for numbers in ((2,), (2, 3), (4, 2, 9), (999983,), (8, 9), (2 ** 19, 3 ** 12)):
            self.assertEqual(product_of(numbers).exponent_now(), 1, numbers)

    def test_powers(self):
        self.assertEqual(product_of((2, 2)).exponent_now(), 2)
        self.assertEqual(product_of((2, 4)).exponent_now(), 3)
        self.assertEqual(product_of((8, 8)).exponent_now(), 6)
        self.assertEqual(product_of((12, 18)).exponent_now(), 3)
        self.assertEqual(product_of((1, 16, 1)).exponent_now(), 4)
        self.assertEqual(product_of((16, 81)).exponent_now(), 4)
        self.assertEqual(product_of((SMALL, SMALL)).exponent_now(), 12)

    def test_a_great_product(self):
        self.assertEqual(product_of((2 ** 19,) * 60).exponent_now(), 19 * 60)
        self.assertEqual(product_of((999983,) * 60).exponent_now(), 60)
        self.assertEqual(product_of((999983,) * 59 + (999979,)).exponent_now(), 1)
        self.assertEqual(product_of((999983, 999979) * 30).exponent_now(), 30)
        self.assertEqual(product_of((SMALL,) * 60).exponent_now(), 360)

    def test_kind(self):
        for numbers in ((), (2,), (4,)):
            self.assertIs(type(product_of(numbers).exponent_now()), int)


class TestLacksNow(unittest.TestCase):
    def test_going_through_all(self):
        for number in range(1, 90):
            for exponent in (2, 3):
                told = lacks_by_going_through_all(number, exponent)
                self.assertEqual(product_of((number,)).lacks_now(exponent), told, (number, exponent))
        for numbers in ((2, 3), (4, 6), (12, 18), (8, 8, 2), (5, 7), (9, 3, 27)):
            for exponent in (2, 3):
                told = lacks_by_going_through_all(prod(numbers), exponent)
                self.assertEqual(product_of(numbers).lacks_now(exponent), told, (numbers, exponent))

    def test_known_ones(self):
        self.assertEqual(product_of((2,)).lacks_now(2), 2)
        self.assertEqual(product_of((2,)).lacks_now(3), 4)
        self.assertEqual(product_of((2,)).lacks_now(10), 2 ** 9)
        self.assertEqual(product_of((2,)).lacks_now(200), 2 ** 199)
        self.assertEqual(product_of((12, 6)).lacks_now(2), 2)
        self.assertEqual(product_of((12, 6)).lacks_now(3), 3)
        self.assertEqual(product_of((12, 6)).lacks_now(10), 2 ** 7 * 3 ** 8)

    def test_one_where_it_is_such_a_power(self):
        self.assertEqual(product_of((8, 2)).lacks_now(2), 1)
        self.assertEqual(product_of((8, 2)).lacks_now(4), 1)
        self.assertEqual(product_of((8, 2)).lacks_now(3), 4)
        self.assertEqual(product_of((2 ** 10,) * 20).lacks_now(200), 1)
        self.assertEqual(product_of((2 ** 10,) * 20 + (2,)).lacks_now(200), 2 ** 199)

    def test_with_it_the_product_is_a_power(self):
        for start in range(20):
            numbers = many_numbers(4, 50, start)
            for exponent in EXPONENTS:
                lacking = product_of(numbers).lacks_now(exponent)
                self.assertEqual(greatest_way(prod(numbers) * lacking)[1] % exponent, 0)
                # With one factor of it fewer it is none.
                for prime in (2, 3, 5, 7, 11, 13, 17, 19, 23, 29, 31, 37, 41, 43, 47):
                    if lacking % prime == 0:
                        self.assertLess(gcd(greatest_way(prod(numbers) * lacking // prime)[1], exponent), exponent)

    def test_sixty_great_ones(self):
        primes = primes_from(999000, 60)
        self.assertEqual(product_of(primes).lacks_now(2), prod(primes))
        self.assertEqual(product_of(primes).lacks_now(200), prod(primes) ** 199)
        self.assertEqual(product_of(primes).exponent_now(), 1)

    def test_kind(self):
        for numbers in ((), (2,), (4,)):
            self.assertIs(type(product_of(numbers).lacks_now(2)), int)


class TestRefused(unittest.TestCase):
    def check_refused(self, product, ask, number):
        before = all_told(product)
        with self.assertRaises(NoFactor) as caught:
            ask(number)
        error = caught.exception
        self.assertIs(type(error), NoFactor)
        self.assertIs(type(error.number), int)
        self.assertEqual(error.number, number)
        self.assertIsInstance(error, PowerError)
        self.assertIsInstance(error, ValueError)
        self.assertNotIsInstance(error, (NoAsk, NoNumber))
        self.assertEqual(all_told(product), before)

    def test_come_below_one(self):
        for numbers in ((), (1,), (6, 6, 10)):
            for number in (0, -1, -6, -SMALL):
                product = product_of(numbers)
                self.check_refused(product, product.come, number)

    def test_go_of_what_is_not_there(self):
        for numbers in ((), (1,), (6, 6, 10)):
            for number in (0, 2, 3, 60, 360, SMALL, -6):
                product = product_of(numbers)
                self.check_refused(product, product.go, number)

    def test_go_of_what_went(self):
        product = product_of((6, 10))
        product.go(10)
        self.check_refused(product, product.go, 10)
        product.come(10)
        product.go(10)
        self.check_refused(product, product.go, 10)

    def test_none_told(self):
        product = KeptProduct()
        self.assertIs(product.come(4), None)
        self.assertIs(product.go(4), None)


class TestComingsAndGoings(unittest.TestCase):
    def test_the_same_as_one_made_afresh(self):
        for start in range(8):
            product = KeptProduct()
            kept = []
            for at, number in enumerate(many_numbers(120, 48, start)):
                if number in kept and at % 3 == 0:
                    product.go(number)
                    kept.remove(number)
                elif len(kept) < 60:
                    product.come(number)
                    kept.append(number)
                else:
                    product.go(kept.pop(number % len(kept)))
                if at % 5 == 0:
                    self.assertEqual(all_told(product), all_told(product_of(kept[::-1])))
                    self.assertEqual(all_told(product), all_told(product_of(sorted(kept))))

    def test_great_ones(self):
        numbers = many_numbers(60, SMALL, 5)
        product = product_of(numbers)
        for number in numbers[::2]:
            product.go(number)
        self.assertEqual(all_told(product), all_told(product_of(sorted(numbers[1::2]))))
        for number in numbers[:40:2]:
            product.come(number)
        kept = numbers[1::2] + numbers[:40:2]
        self.assertEqual(all_told(product), all_told(product_of(kept[::-1])))

    def test_with_refusals_between(self):
        product = KeptProduct()
        for number in (12, 18, 12, 5):
            product.come(number)
            with self.assertRaises(NoFactor):
                product.come(0)
            with self.assertRaises(NoFactor):
                product.go(7)
        product.go(5)
        self.assertEqual(all_told(product), all_told(product_of((18, 12, 12))))

    def test_asked_again(self):
        product = product_of((12, 18, 999983))
        first = all_told(product)
        self.assertEqual(all_told(product), first)

    def test_two_products_do_not_touch_one_another(self):
        first, second = KeptProduct(), KeptProduct()
        first.come(8)
        self.assertEqual(second.numbers_now(), ())
        self.assertEqual(second.exponent_now(), 2)
        second.come(5)
        with self.assertRaises(NoFactor):
            second.go(8)
        with self.assertRaises(NoFactor):
            first.go(5)
        self.assertEqual(all_told(first), all_told(product_of((8,))))
        self.assertEqual(all_told(second), all_told(product_of((5,))))


class TestSoon(unittest.TestCase):
    def test_great_products(self):
        start = time.process_time()
        primes = primes_from(999000, 60)
        for _ in range(5):
            product = product_of(primes)
            for exponent in (2, 3, 10, 200):
                product.lacks_now(exponent)
            for _ in range(1000):
                product.exponent_now()
            for prime in primes:
                product.go(prime)
        self.assertLess(time.process_time() - start, SOON)


class TestInterface(unittest.TestCase):
    def test_defined_in_their_file(self):
        self.assertEqual(KeptProduct.__module__, "powernumbers.kept")
        for name in ("come", "go", "numbers_now", "exponent_now", "lacks_now"):
            self.assertIn(name, vars(KeptProduct))


if __name__ == "__main__":
    unittest.main()
