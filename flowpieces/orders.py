"""Up to which power steps are right, by how much they miss, and steps that follow a told change.

The functions of the interface check their arguments; those called step_.. and pieces_.. take
steps and sums that were checked before.
"""

from math import factorial

from flowpieces.brackets import bracket_coordinates, bracket_numbers, word_halves, word_is_least, words_least
from flowpieces.errors import InvalidLength, InvalidWord, NotBrackets, NotLeast
from flowpieces.series import THEMSELVES, scale_of, scaled_logarithm, scaled_series, unscaled
from flowpieces.steps import check_step, check_step_over, step_has_two, step_short, step_undoing
from flowpieces.values import NIL, ONE, check_length, check_letters, fraction_of, is_between
from flowpieces.wholes import whole_plus
from flowpieces.words import check_sum, check_word, sum_at, sum_has_two, sum_of, sum_plus, sum_times, words_of


def last_length(letters):
    """The length up to which orders are told."""
    return 6 if letters == 2 else 4


def miss_part(pieces, meanings, letters, length):
    """The part of a length of the pieces' series less the whole, a sum."""
    numbers, scales = scaled_series(pieces, meanings, length)
    many = factorial(length)
    found = {}
    for word in words_of(letters, length):
        scale = scale_of(word, scales)
        found[word] = fraction_of(numbers.get(word, 0) * many - scale, scale * many)
    return sum_of(found)


def pieces_order_and_miss(pieces, meanings, letters):
    """The order of pieces, and their miss; None for this if the order is the last length."""
    last = last_length(letters)
    # Most steps are found wrong at short words, for which little has to be reckoned.
    for length in range(1, last + 1):
        miss = miss_part(pieces, meanings, letters, length)
        if miss != ():
            return length - 1, miss
    return last, None


def step_order_and_miss(step, letters):
    """The order of a step, and its miss; None for this if the order is the last length."""
    return pieces_order_and_miss(step_short(step), THEMSELVES, letters)


def step_change(step, length):
    """The change that a step follows up to a length."""
    numbers, scales = scaled_series(step_short(step), THEMSELVES, length)
    return unscaled(scaled_logarithm(numbers, length), scales)


def bracket_step(word, number):
    """A step that follows a number times the nested bracket of a least word up to this word's length."""
    if len(word) == 1:
        return ((word[0], number),)
    first, last = word_halves(word)
    ahead, behind = bracket_step(first, number), bracket_step(last, ONE)
    return ahead + behind + step_undoing(ahead) + step_undoing(behind)


def step_towards(terms, length):
    """A step that follows a sum up to a length; None if the sum is up to there no sum of brackets."""
    step = ()
    for reached in range(1, length + 1):
        # What is joined now changes nothing at shorter words.
        gap = sum_plus(terms, sum_times(step_change(step, reached), (-1, 1)))
        missing = bracket_coordinates(tuple([pair for pair in gap if len(pair[0]) == reached]))
        if missing is None:
            return None
        for word, number in missing:
            step = step + bracket_step(word, number)
    return step_short(step)


def lone_bracket(word, letters):
    """The sum of brackets of a least word's length with the number 1 there and 0 at all other least words."""
    numbers = bracket_numbers(word)
    # The bracket of each other word leaves the words ahead of this one as they are.
    for other in words_least(letters, len(word)):
        if other != word and other in numbers:
            numbers = whole_plus(numbers, bracket_numbers(other), -numbers[other])
    return sum_of({made: (number, 1) for made, number in numbers.items()})


def order_of(step, letters):
    """The order of a step, told up to the last length."""
    check_step_over(step, letters)
    return step_order_and_miss(step, letters)[0]


def miss_of(step, letters):
    """The miss of a step, a sum; None if its order is the last length."""
    check_step_over(step, letters)
    return step_order_and_miss(step, letters)[1]


def change_followed(step, length):
    """The change that a step follows up to a length, a sum of brackets."""
    check_step(step)
    check_length(length, step_has_two(step))
    return step_change(step, length)


def step_following(terms, length):
    """A step that follows a sum of brackets up to a length."""
    check_sum(terms)
    if not is_between(length, 1, 3 if sum_has_two(terms) else 4):
        raise InvalidLength(length)
    step = step_towards(terms, length)
    if step is None or sum_at(terms, ()) != NIL:
        raise NotBrackets()
    return step


def missing_step(word, letters):
    """A step with the whole's numbers at all other least words up to the length of a least word, but not at this."""
    check_word(word)
    check_letters(letters)
    if (letters == 2 and 2 in word) or len(word) > (4 if letters == 2 else 3):
        raise InvalidWord(word)
    if not word_is_least(word):
        raise NotLeast()
    straight = sum_of({(letter,): ONE for letter in range(letters)})
    return step_towards(sum_plus(straight, lone_bracket(word, letters)), len(word))
