"""Exact roots, and the ways in which a number is a power."""
