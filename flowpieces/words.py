"""Words and sums: what they are, adding and multiplying sums, their exponentials and logarithms.

The functions of the interface check their arguments; those called sum_.. take
sums that were checked before, and lengths of any size.
"""

from math import factorial

from flowpieces.errors import InvalidLength, InvalidSum, InvalidWord
from flowpieces.values import (
    NIL,
    ONE,
    added,
    check_fraction,
    check_length,
    is_between,
    is_fraction,
    is_letter,
    is_pair,
    multiplied,
)


def is_word(value):
    """Whether a value, whatever it is, is a word."""
    return type(value) == tuple and all([is_letter(letter) for letter in value])


def is_term(value):
    """Whether a value, whatever it is, is a pair of a word and a fraction other than 0."""
    return is_pair(value) and is_word(value[0]) and is_fraction(value[1]) and value[1] != NIL


def is_sum(value):
    """Whether a value, whatever it is, is a sum."""
    if type(value) != tuple or not all([is_term(pair) for pair in value]):
        return False
    places = [place_of(word) for word, _ in value]
    return all([first < second for first, second in zip(places, places[1:])])


def place_of(word):
    """What words are put in the order of sums by."""
    return len(word), word


def words_of(letters, length):
    """All words of just this length with 2 or 3 letters let, ascending."""
    words = [()]
    for _ in range(length):
        words = [word + (letter,) for word in words for letter in range(letters)]
    return words


def check_word(word):
    """Refuse what is no word."""
    if not is_word(word):
        raise InvalidWord(word)


def check_sum(terms):
    """Refuse what is no sum."""
    if not is_sum(terms):
        raise InvalidSum(terms)


def sum_has_two(terms):
    """Whether the letter 2 stands in a sum."""
    return any([2 in word for word, _ in terms])


def sum_of(numbers):
    """The sum with the numbers of a dict at its words."""
    words = sorted(numbers, key=place_of)
    return tuple([(word, numbers[word]) for word in words if numbers[word] != NIL])


def sum_at(terms, word):
    """The number of a sum at a word."""
    return dict(terms).get(word, NIL)


def sum_plus(terms, other):
    """Both sums added."""
    numbers = dict(terms)
    for word, number in other:
        numbers[word] = added(numbers.get(word, NIL), number)
    return sum_of(numbers)


def sum_times(terms, fraction):
    """A sum times a fraction."""
    if fraction == NIL:
        return ()
    return tuple([(word, multiplied(number, fraction)) for word, number in terms])


def sum_product(terms, other, length):
    """The product of two sums up to a length."""
    numbers = {}
    for word, number in terms:
        for behind, factor in other:
            if len(word) + len(behind) > length:
                # All words further on in a sum are as long at least.
                break
            made = word + behind
            numbers[made] = added(numbers.get(made, NIL), multiplied(number, factor))
    return sum_of(numbers)


def sum_bracket(terms, other, length):
    """The bracket of two sums up to a length."""
    behind = sum_product(other, terms, length)
    return sum_plus(sum_product(terms, other, length), sum_times(behind, (-1, 1)))


def sum_powers(terms, numbers, length):
    """The powers of a sum, from the power 0 on, times these numbers, added up to a length."""
    total = ()
    for number in reversed(numbers):
        total = sum_plus(sum_product(terms, total, length), sum_of({(): number}))
    return total


def number_at(terms, word):
    """The number of a sum at a word, a fraction."""
    check_sum(terms)
    check_word(word)
    return sum_at(terms, word)


def part_of(terms, length):
    """The part of a sum of a length from 0 to 12."""
    check_sum(terms)
    if not is_between(length, 0, 12):
        raise InvalidLength(length)
    return tuple([(word, number) for word, number in terms if len(word) == length])


def plus(terms, other):
    """Both sums added."""
    check_sum(terms)
    check_sum(other)
    return sum_plus(terms, other)


def times_number(terms, fraction):
    """A sum times a fraction."""
    check_sum(terms)
    check_fraction(fraction)
    return sum_times(terms, fraction)


def product(terms, other, length):
    """The product of two sums up to a length."""
    check_two_sums(terms, other, length)
    return sum_product(terms, other, length)


def bracket(terms, other, length):
    """The bracket of two sums up to a length."""
    check_two_sums(terms, other, length)
    return sum_bracket(terms, other, length)


def check_two_sums(terms, other, length):
    """Refuse two sums and a length up to which they are not multiplied."""
    check_sum(terms)
    check_sum(other)
    check_length(length, sum_has_two(terms) or sum_has_two(other))


def exponential(terms, length):
    """The exponential, up to a length, of a sum without the word ()."""
    check_sum(terms)
    if sum_at(terms, ()) != NIL:
        raise InvalidSum(terms)
    check_length(length, sum_has_two(terms))
    return sum_powers(terms, [(1, factorial(power)) for power in range(length + 1)], length)


def logarithm(terms, length):
    """The logarithm, up to a length, of a sum whose number at () is 1."""
    check_sum(terms)
    if sum_at(terms, ()) != ONE:
        raise InvalidSum(terms)
    check_length(length, sum_has_two(terms))
    numbers = [NIL] + [(1 if power % 2 == 1 else -1, power) for power in range(1, length + 1)]
    # The word () stands first in a sum.
    return sum_powers(terms[1:], numbers, length)
