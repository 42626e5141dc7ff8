"""Steps: what they are."""

from flowpieces.errors import InvalidStep
from flowpieces.values import is_fraction, is_letter, is_pair


def is_step(value):
    """Whether a value, whatever it is, is a step."""
    return type(value) == tuple and all([is_piece(piece) for piece in value])


def is_piece(value):
    """Whether a value, whatever it is, is a piece."""
    return is_pair(value) and is_letter(value[0]) and is_fraction(value[1])


def check_step(step):
    """Refuse what is no step."""
    if not is_step(step):
        raise InvalidStep(step)


def step_has_two(step):
    """Whether the letter 2 stands in a step, be it with the fraction 0."""
    return any([letter == 2 for letter, _ in step])
