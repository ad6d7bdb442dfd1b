"""Fractions: pairs of whole numbers in lowest terms."""

from math import gcd


def lowest_terms(top, bottom):
    """The fraction top / bottom; bottom is at least 1."""
    shared = gcd(top, bottom)
    return top // shared, bottom // shared
