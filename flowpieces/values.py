"""Whole numbers, letters and fractions: what they are, reckoning with them, and refusing wrong ones."""

from math import gcd, lcm

from flowpieces.errors import InvalidFraction, InvalidLength, InvalidLetters

NIL = (0, 1)
ONE = (1, 1)


def is_whole(value):
    """Whether a value, whatever it is, is a whole number."""
    # isinstance would let True and False in.
    return type(value) == int


def is_between(value, least, most):
    """Whether a value, whatever it is, is a whole number from the least to the most."""
    return is_whole(value) and least <= value <= most


def is_letter(value):
    """Whether a value, whatever it is, is a letter."""
    return is_between(value, 0, 2)


def is_pair(value):
    """Whether a value, whatever it is, is a tuple of two."""
    return type(value) == tuple and len(value) == 2


def is_fraction(value):
    """Whether a value, whatever it is, is a fraction."""
    if not is_pair(value):
        return False
    upper, lower = value
    return is_whole(upper) and is_whole(lower) and lower > 0 and gcd(upper, lower) == 1


def check_fraction(fraction):
    """Refuse what is no fraction."""
    if not is_fraction(fraction):
        raise InvalidFraction(fraction)


def check_letters(letters):
    """Refuse what does not tell how many letters are let."""
    if not is_between(letters, 2, 3):
        raise InvalidLetters(letters)


def check_length(length, has_two):
    """Refuse what is no length, has_two telling whether the letter 2 counts."""
    if not is_between(length, 1, 4 if has_two else 6):
        raise InvalidLength(length)


def fraction_of(upper, lower):
    """The fraction upper / lower, for a lower above 0."""
    common = gcd(upper, lower)
    return upper // common, lower // common


def added(first, second):
    """The sum of two fractions."""
    return fraction_of(first[0] * second[1] + second[0] * first[1], first[1] * second[1])


def multiplied(first, second):
    """The product of two fractions."""
    return fraction_of(first[0] * second[0], first[1] * second[1])


def opposite(fraction):
    """The opposite of a fraction."""
    return -fraction[0], fraction[1]


def over_one_number(fractions):
    """Whole numbers and one number below them all, for fractions.

    Whole numbers are added and multiplied much faster than fractions.
    """
    lower = 1
    for number in fractions:
        lower = lcm(lower, number[1])
    return [number[0] * (lower // number[1]) for number in fractions], lower


def total_of(fractions):
    """The sum of fractions."""
    uppers, lower = over_one_number(fractions)
    return fraction_of(sum(uppers), lower)
