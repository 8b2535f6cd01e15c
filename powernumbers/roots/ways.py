"""Whether a number is a power, and in which ways."""

from powernumbers.roots.exact import root_of, taken
from powernumbers.roots.primes import next_prime


def is_power(number):
    """Whether the number is a base from 1 on taken to an exponent from 2 on."""
    return greatest_way(number)[1] > 1


def ways_of(number):
    """All pairs (base, exponent) that come to the number, by rising exponents."""
    base, greatest = greatest_way(number)
    exponents = [k for k in range(2, greatest + 1) if greatest % k == 0]
    return tuple([(taken(base, greatest // k), k) for k in exponents])


def greatest_way(number):
    """The pair (base, exponent) of the greatest exponent; (number, 1) where it is no power."""
    if number == 0:
        return 0, 1
    if number == 1:
        return 1, 2
    base = number
    greatest = 1
    prime = 2
    # The least power by an exponent from base 2 on has one bit more than the exponent.
    while prime < base.bit_length():
        root, left = root_of(base, prime)
        if left == 0:
            base = root
            greatest = greatest * prime
        else:
            prime = next_prime(prime)
    return base, greatest
