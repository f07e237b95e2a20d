"""Fractions as pairs (numerator, denominator).

While a result is worked out its pairs may have any denominator but 0: lowest
terms are found once, at the end, since that is what costs the most.
"""

from exacttables.refusals import TooLarge

HEAVIEST = 2000


def greatest_common(first, second):
    """The greatest number that divides both; 0 for 0 and 0."""
    high = abs(first)
    low = abs(second)
    while low > 0:
        rest = high % low
        high = low
        low = rest
    return high


def lowest(fraction):
    """The same value in lowest terms, with a denominator of 1 or more."""
    shared = greatest_common(fraction[0], fraction[1])
    if fraction[1] < 0:
        shared = -shared
    return (fraction[0] // shared, fraction[1] // shared)


def weight(fraction):
    """The bits of numerator and denominator, for a fraction in lowest terms."""
    return fraction[0].bit_length() + fraction[1].bit_length()


def settled_fraction(fraction):
    """The fraction in lowest terms, as it may be kept or told."""
    settled = lowest(fraction)
    if weight(settled) > HEAVIEST:
        raise TooLarge()
    return settled


def plus(first, second):
    """The sum of two fractions, not in lowest terms."""
    return (first[0] * second[1] + second[0] * first[1], first[1] * second[1])


def opposite(fraction):
    """The fraction with the other sign."""
    return (-fraction[0], fraction[1])


def minus(first, second):
    """The first fraction less the second, not in lowest terms."""
    return plus(first, opposite(second))


def times(first, second):
    """The product of two fractions, not in lowest terms."""
    return (first[0] * second[0], first[1] * second[1])


def over(first, second):
    """The first fraction divided by the second, which isn't 0; not in lowest terms."""
    return (first[0] * second[1], first[1] * second[0])


def common_denominator(fractions):
    """The least number that all the denominators divide; 1 if there are none."""
    common = 1
    for fraction in fractions:
        below = fraction[1]
        common = common * (below // greatest_common(common, below))
    return common


def numerators_over(fractions, common):
    """The numerators of the fractions when all are written over common."""
    return [above * (common // below) for above, below in fractions]
