"""Sums over whole numbers: dicts that have at words whole numbers, 0 at each word that is missing.

Whole numbers are reckoned with much faster than fractions, which are reduced each time.
"""

from math import lcm

from flowpieces.values import fraction_of
from flowpieces.words import sum_of


def whole_product(first, second, length):
    """The product of two sums up to a length."""
    made = {}
    for word, number in first.items():
        for behind, factor in second.items():
            if len(word) + len(behind) <= length:
                longer = word + behind
                made[longer] = made.get(longer, 0) + number * factor
    return made


def whole_plus(numbers, others, factor):
    """A sum and another one times a factor, added; no word keeps the number 0."""
    made = {word: number for word, number in numbers.items()}
    for word, number in others.items():
        made[word] = made.get(word, 0) + number * factor
    return {word: number for word, number in made.items() if number != 0}


def whole_bracket(first, second, length):
    """The bracket of two sums up to a length."""
    return whole_plus(whole_product(first, second, length), whole_product(second, first, length), -1)


def kind_of(word):
    """What words have in common that have each letter as often as one another."""
    return tuple(sorted(word))


def over_kinds(terms):
    """A sum times a number above 0 for each kind of words, which makes it whole: what this is, and these numbers.

    Brackets and shuffles do not lead out of a kind, and much of the numbers of one kind often is the same.
    """
    lowers = {}
    for word, number in terms:
        kind = kind_of(word)
        lowers[kind] = lcm(lowers.get(kind, 1), number[1])
    numbers = {word: number[0] * (lowers[kind_of(word)] // number[1]) for word, number in terms}
    return numbers, lowers


def sum_over_kinds(numbers, lowers):
    """The sum that over_kinds made whole."""
    return sum_of({word: fraction_of(number, lowers[kind_of(word)]) for word, number in numbers.items()})
