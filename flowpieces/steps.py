"""Steps: what they are, which of them are alike, and their series.

The functions of the interface check their arguments; those called step_.. take steps that were
checked before.
"""

from math import factorial

from flowpieces.errors import InvalidStep
from flowpieces.series import THEMSELVES, scaled_series, unscaled
from flowpieces.values import (
    NIL,
    added,
    check_fraction,
    check_length,
    check_letters,
    is_fraction,
    is_letter,
    is_pair,
    multiplied,
    opposite,
)
from flowpieces.words import words_of


def is_step(value):
    """Whether a value, whatever it is, is a step."""
    return type(value) == tuple and all([is_piece(piece) for piece in value])


def is_piece(value):
    """Whether a value, whatever it is, is a piece."""
    return is_pair(value) and is_letter(value[0]) and is_fraction(value[1])


def check_step(step):
    """Refuse what is no step."""
    if not is_step(step):
        raise InvalidStep(step)


def check_step_over(step, letters):
    """Refuse what is no step, what does not tell how many letters are let, and a step with others than these."""
    check_step(step)
    check_letters(letters)
    if letters == 2 and step_has_two(step):
        raise InvalidStep(step)


def check_two_steps(step, other):
    """Refuse what are no two steps."""
    check_step(step)
    check_step(other)


def step_has_two(step):
    """Whether the letter 2 stands in a step, be it with the fraction 0."""
    return any([letter == 2 for letter, _ in step])


def step_short(step):
    """The short form of a step."""
    pieces = []
    for letter, number in step:
        # What stands in pieces is short already, so only its last piece can go together with another one.
        if pieces and pieces[-1][0] == letter:
            number = added(pieces.pop()[1], number)
        if number != NIL:
            pieces.append((letter, number))
    return tuple(pieces)


def step_undoing(step):
    """The undoing of a step."""
    return tuple([(letter, opposite(number)) for letter, number in reversed(step)])


def short_form(step):
    """The short form of a step."""
    check_step(step)
    return step_short(step)


def are_alike(step, other):
    """Whether two steps are the same for all tables."""
    check_two_steps(step, other)
    return step_short(step) == step_short(other)


def parting_word(step, other):
    """A word at whose shifts two steps differ; None if they are alike."""
    check_two_steps(step, other)
    word = tuple([letter for letter, _ in step_short(step + step_undoing(other))])
    return None if word == () else word


def undoing(step):
    """The undoing of a step, with all its pieces."""
    check_step(step)
    return step_undoing(step)


def mirrored(step):
    """The mirrored step, with all its pieces."""
    check_step(step)
    return step[::-1]


def timed(step, fraction):
    """A step times a fraction, with all its pieces."""
    check_step(step)
    check_fraction(fraction)
    return tuple([(letter, multiplied(number, fraction)) for letter, number in step])


def joined(step, other):
    """Both steps, one behind the other, with all their pieces."""
    check_two_steps(step, other)
    return step + other


def is_symmetric(step):
    """Whether a step is alike its mirrored step."""
    check_step(step)
    pieces = step_short(step)
    return pieces == pieces[::-1]


def series_of(step, length):
    """The series of a step up to a length, a sum."""
    check_step(step)
    check_length(length, step_has_two(step))
    numbers, scales = scaled_series(step_short(step), THEMSELVES, length)
    return unscaled(numbers, scales)


def whole_of(letters, length):
    """The series of the sum of all letters that are let, up to a length, a sum."""
    check_letters(letters)
    check_length(length, letters == 3)
    words = [word for many in range(length + 1) for word in words_of(letters, many)]
    return tuple([(word, (1, factorial(len(word)))) for word in words])
