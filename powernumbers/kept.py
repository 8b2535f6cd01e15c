"""A product of numbers that come and go."""

from math import gcd

from powernumbers.errors import NoFactor
from powernumbers.roots.exact import taken
from powernumbers.roots.primes import primes_of


class KeptProduct:
    """Numbers from 1 on, alike ones let, and what is told of their product."""

    def __init__(self):
        self._numbers = []
        # The product itself may be great: its primes tell all that is asked of it.
        self._times = {}

    def come(self, number):
        """The number comes, or NoFactor where it is below 1."""
        if number < 1:
            raise NoFactor(number)
        self._numbers.append(number)
        self._count_primes(number, 1)

    def go(self, number):
        """The number goes, one of those alike, or NoFactor where it is not there."""
        if number not in self._numbers:
            raise NoFactor(number)
        self._numbers.remove(number)
        self._count_primes(number, -1)

    def numbers_now(self):
        """The numbers, rising."""
        return tuple(sorted(self._numbers))

    def exponent_now(self):
        """The greatest exponent by which the product is a power, 1 where it is none."""
        if not self._times:
            return 2
        exponent = 0
        for times in self._times.values():
            exponent = gcd(exponent, times)
        return exponent

    def lacks_now(self, exponent):
        """The least number with which the product would be a power by the exponent."""
        lacking = 1
        for prime, times in self._times.items():
            lacking = lacking * taken(prime, -times % exponent)
        return lacking

    def _count_primes(self, number, step):
        for prime, times in primes_of(number):
            many = self._times.get(prime, 0) + step * times
            if many > 0:
                self._times[prime] = many
            else:
                del self._times[prime]
