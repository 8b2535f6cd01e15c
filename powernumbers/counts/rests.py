"""The rests that powers leave by a divisor."""

from powernumbers.roots.exact import root_of, taken
from powernumbers.roots.primes import next_prime


def rests_of(divisor, exponent):
    """All rests by the divisor of numbers taken to the exponent, rising."""
    return tuple(sorted({_rest(base, exponent, divisor) for base in range(divisor)}))


def _rest(base, exponent, divisor):
    return taken(base, exponent) % divisor


def count_rest(most, exponent, divisor, rest):
    """How many powers by the exponent, from 1 to most, have the rest by the divisor."""
    root, _ = root_of(most, exponent)
    first_bases = [base for base in range(1, divisor + 1) if _rest(base, exponent, divisor) == rest]
    # Bases that are a divisor apart leave the same rest.
    return sum([(root - base) // divisor + 1 for base in first_bases])


def can_be(number, exponent, most):
    """Whether no rest of the number by the divisors from 2 to most bars it as a power by the exponent."""
    if number == 0:
        return False
    prime = 2
    # A rest by a divisor is one that numbers leave where those by the powers of
    # primes in it are; and so it is by these where it is by the greatest ones.
    while prime <= most:
        divisor = _greatest_power_to(most, prime)
        if number % divisor not in rests_of(divisor, exponent):
            return False
        prime = next_prime(prime)
    return True


def _greatest_power_to(most, prime):
    power = prime
    while power * prime <= most:
        power = power * prime
    return power
