"""The series of steps, over whole numbers.

Each letter has a scale, a whole number above 0; that of a word is the product of those of its
letters. A scaled sum has at each word its number times the word's scale. Each letter has a
meaning, too: the sum that stands in its place in a step; words of it are not ().
"""

from math import lcm

from flowpieces.values import fraction_of
from flowpieces.wholes import whole_plus, whole_product
from flowpieces.words import sum_of

# What each letter means if nothing else is said: itself.
THEMSELVES = ((((0,), (1, 1)),), (((1,), (1, 1)),), (((2,), (1, 1)),))

# For k from 1 to 6 the power k of 30 over 1 * 2 * .. * k is whole, and 30 divides it. So the exponential
# of a sum with numbers that 30 divides has such numbers again, and so has their logarithm.
STEADY = 30


def scale_of(word, scales):
    """The scale of a word."""
    scale = 1
    for letter in word:
        scale = scale * scales[letter]
    return scale


def wider_scales(scales, terms, fraction):
    """Multiples of the scales with which a sum times a fraction is whole and STEADY divides its numbers."""
    wider = list(scales)
    for word, number in terms:
        # It is enough if one letter of each word has what the word needs.
        wider[word[0]] = lcm(wider[word[0]], STEADY * fraction[1] * number[1])
    return wider


def rescaled(total, scales, wider):
    """A scaled sum with multiples of its scales instead of these."""
    factors = [wide // scale for wide, scale in zip(wider, scales)]
    return {word: number * scale_of(word, factors) for word, number in total.items()}


def scaled_times(terms, fraction, scales):
    """A sum times a fraction, scaled; the scales have to make it whole."""
    upper, lower = fraction
    return {word: upper * number[0] * (scale_of(word, scales) // (lower * number[1])) for word, number in terms}


def times_exponential(total, terms, length):
    """The product of a scaled sum and the exponential of another one, up to a length."""
    made = total
    power = total
    for above in range(1, length + 1):
        longer = whole_product(power, terms, length)
        power = {word: number // above for word, number in longer.items()}
        made = whole_plus(made, power, 1)
    return made


def scaled_series(pieces, meanings, length):
    """The series of pieces up to a length, scaled, and the scales."""
    # Longer words would make the scales wide for nothing.
    short = [tuple([pair for pair in terms if len(pair[0]) <= length]) for terms in meanings]
    scales = [STEADY, STEADY, STEADY]
    total = {(): 1}
    for letter, number in pieces:
        # Scales that grow from piece to piece keep the numbers short for long.
        wider = wider_scales(scales, short[letter], number)
        total = rescaled(total, scales, wider)
        scales = wider
        total = times_exponential(total, scaled_times(short[letter], number, scales), length)
    return total, scales


def scaled_logarithm(total, length):
    """The logarithm of a scaled series up to a length."""
    rest = {word: number for word, number in total.items() if word != ()}
    made = {}
    power = rest
    for above in range(1, length + 1):
        sign = 1 if above % 2 == 1 else -1
        made = whole_plus(made, {word: sign * number // above for word, number in power.items()}, 1)
        power = whole_product(power, rest, length)
    return made


def unscaled(numbers, scales):
    """The sum of which a scaled one is told."""
    return sum_of({word: fraction_of(number, scale_of(word, scales)) for word, number in numbers.items()})
