"""Exact roots, primes, and the ways in which a number is a power."""
