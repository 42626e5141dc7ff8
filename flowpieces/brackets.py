"""Sums of brackets, sums of a flow, and the least words by which both are told.

The functions of the interface check their arguments; those called word_.. and bracket_.. take
words and sums that were checked before.
"""

from flowpieces.errors import InvalidSum, InvalidWord, NotLeast
from flowpieces.values import NIL, ONE, check_length, check_letters
from flowpieces.wholes import kind_of, over_kinds, sum_over_kinds, whole_bracket, whole_plus
from flowpieces.words import check_sum, check_word, place_of, sum_at, sum_has_two, sum_of, words_of

MOST_DEGREE = 6
MOST_SHUFFLED = 8


def check_low_sum(terms):
    """Refuse what is no sum of a degree up to MOST_DEGREE."""
    check_sum(terms)
    if not all([len(word) <= MOST_DEGREE for word, _ in terms]):
        raise InvalidSum(terms)


def word_is_least(word):
    """Whether a word is least."""
    return word != () and all([word < word[at:] for at in range(1, len(word))])


def words_least(letters, length):
    """All least words of just this length, ascending."""
    return tuple([word for word in words_of(letters, length) if word_is_least(word)])


def word_halves(word):
    """The halves of a least word of two letters or more."""
    last = min([word[at:] for at in range(1, len(word))])
    return word[: len(word) - len(last)], last


def bracket_numbers(word):
    """The nested bracket of a least word, a sum over whole numbers."""
    if len(word) == 1:
        return {word: 1}
    first, last = word_halves(word)
    return whole_bracket(bracket_numbers(first), bracket_numbers(last), len(word))


def left_bracket(word):
    """The left bracket of the letters of a word, not (), a sum over whole numbers."""
    made = {word[:1]: 1}
    for at in range(1, len(word)):
        made = whole_bracket(made, {word[at : at + 1]: 1}, len(word))
    return made


def bracket_coordinates(terms):
    """The coordinates of a sum; None if it is no sum of brackets."""
    rest, lowers = over_kinds(terms)
    found = {}
    while rest:
        # The bracket of a least word has greater words beside it alone: so a sum of brackets begins with a least one.
        word = min(rest, key=place_of)
        if not word_is_least(word):
            return None
        found[word] = rest[word]
        rest = whole_plus(rest, bracket_numbers(word), -found[word])
    return sum_over_kinds(found, lowers)


def bracket_sum(coordinates_told):
    """The sum of brackets with these coordinates."""
    numbers, lowers = over_kinds(coordinates_told)
    made = {}
    for word, number in numbers.items():
        made = whole_plus(made, bracket_numbers(word), number)
    return sum_over_kinds(made, lowers)


def word_shuffles(word, other):
    """How often both words make each word when they are shuffled: a sum over whole numbers."""
    if word == () or other == ():
        return {word + other: 1}
    made = {}
    for first, rest in ((word[:1], word_shuffles(word[1:], other)), (other[:1], word_shuffles(word, other[1:]))):
        made = whole_plus(made, {first + behind: number for behind, number in rest.items()}, 1)
    return made


def word_pairs(letters, length):
    """All pairs of words other than () with this length together, the first one not longer than the other."""
    pairs = []
    for many in range(1, length // 2 + 1):
        firsts = words_of(letters, many)
        lasts = words_of(letters, length - many)
        pairs.extend([(first, last) for first in firsts for last in lasts])
    return pairs


def flow_breaking(terms, length):
    """Two words by which a sum is not of a flow up to a length; None if it is."""
    if sum_at(terms, ()) != ONE:
        return (), ()
    numbers, lowers = over_kinds(terms)
    letters = 3 if sum_has_two(terms) else 2
    for together in range(2, length + 1):
        for word, other in word_pairs(letters, together):
            if not are_shuffled(word, other, numbers, lowers):
                return word, other
    return None


def are_shuffled(word, other, numbers, lowers):
    """Whether the numbers at two words, multiplied, are the sum of those at all words that both make when shuffled."""
    total = 0
    for made, many in word_shuffles(word, other).items():
        total = total + many * numbers.get(made, 0)
    both = numbers.get(word, 0) * numbers.get(other, 0)
    lower = lowers.get(kind_of(word), 1) * lowers.get(kind_of(other), 1)
    return both * lowers.get(kind_of(word + other), 1) == total * lower


def is_least(word):
    """Whether a word is least."""
    check_word(word)
    return word_is_least(word)


def least_words(letters, length):
    """All least words of just this length, ascending."""
    check_letters(letters)
    check_length(length, letters == 3)
    return words_least(letters, length)


def halves(word):
    """The halves of a least word of two letters or more."""
    check_word(word)
    if len(word) < 2 or not word_is_least(word):
        raise NotLeast()
    return word_halves(word)


def nested(word):
    """The nested bracket of a least word, a sum."""
    check_word(word)
    if len(word) > MOST_DEGREE:
        raise InvalidWord(word)
    if not word_is_least(word):
        raise NotLeast()
    return bracket_sum(((word, ONE),))


def lead_of(terms):
    """The sum of the numbers of a sum times the left brackets of its words."""
    check_low_sum(terms)
    if sum_at(terms, ()) != NIL:
        raise InvalidSum(terms)
    numbers, lowers = over_kinds(terms)
    made = {}
    for word, number in numbers.items():
        made = whole_plus(made, left_bracket(word), number)
    return sum_over_kinds(made, lowers)


def is_bracket_sum(terms):
    """Whether a sum is a sum of brackets."""
    check_low_sum(terms)
    return bracket_coordinates(terms) is not None


def coordinates(terms):
    """The coordinates of a sum of brackets, a sum; None for no sum of brackets."""
    check_low_sum(terms)
    return bracket_coordinates(terms)


def by_coordinates(terms):
    """The sum of brackets with these coordinates."""
    check_low_sum(terms)
    if not all([word_is_least(word) for word, _ in terms]):
        raise InvalidSum(terms)
    return bracket_sum(terms)


def shuffles(word, other):
    """The sum that has at each word how often both words make it when they are shuffled."""
    check_word(word)
    check_word(other)
    if len(word) + len(other) > MOST_SHUFFLED:
        raise InvalidWord(other)
    return sum_of({made: (many, 1) for made, many in word_shuffles(word, other).items()})


def is_of_flow(terms, length):
    """Whether a sum has the number 1 at () and is of a flow up to a length."""
    return breaking_words(terms, length) is None


def breaking_words(terms, length):
    """Two words by which a sum is not of a flow up to a length; None if it is of one."""
    check_low_sum(terms)
    check_length(length, sum_has_two(terms))
    return flow_breaking(terms, length)
