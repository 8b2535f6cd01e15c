"""Primes, and the primes that numbers are made of."""

from math import isqrt

from powernumbers.roots.exact import root_of


def next_prime(number):
    """The least prime above the number, from 1 on."""
    following = number + 1
    while not _is_prime(following):
        following += 1
    return following


def _is_prime(number):
    for divisor in range(2, isqrt(number) + 1):
        if number % divisor == 0:
            return False
    return True


def primes_of(number):
    """The pairs (prime, times) that the number is made of, by rising primes."""
    pairs, left = parted(number, 2)
    if left > 1:
        pairs.append((left, 1))
    return pairs


def parted(number, many):
    """The pairs (prime, times) of its lesser primes, and what is left: fewer primes than many."""
    pairs = []
    left = number
    divisor = 2
    # The primes left are at least the divisor: so many of them come to more than
    # what is left, once the divisor is above its root.
    root, _ = root_of(left, many)
    while divisor <= root:
        times = 0
        while left % divisor == 0:
            left = left // divisor
            times += 1
        if times > 0:
            pairs.append((divisor, times))
            root, _ = root_of(left, many)
        divisor += 1
    return pairs, left
