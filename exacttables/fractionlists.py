"""Lists of fractions as calls are given them and tell them: two numbers for each."""

from exacttables.fraction import settled_fraction
from exacttables.refusals import BadList


def fractions_of(numbers, count):
    """Just so many fractions, told as two numbers each."""
    if len(numbers) != 2 * count:
        raise BadList()
    fractions = [(numbers[2 * k], numbers[2 * k + 1]) for k in range(count)]
    if any([fraction[1] < 1 for fraction in fractions]):
        raise BadList()
    return fractions


def told_fractions(fractions):
    """Two numbers for each of these fractions in lowest terms."""
    told = []
    for fraction in fractions:
        told.extend(fraction)
    return told


def told_settled(fractions):
    """Two numbers for each of these fractions, which come as they were worked out."""
    return told_fractions([settled_fraction(fraction) for fraction in fractions])
