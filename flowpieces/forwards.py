"""Pieces back, the lag of steps without them, and steps in which the letter 2 has a meaning."""

from flowpieces.brackets import MOST_DEGREE, bracket_coordinates
from flowpieces.errors import InvalidLetter, InvalidMeaning, InvalidNumber, InvalidStep, NotRight
from flowpieces.orders import pieces_order_and_miss, step_order_and_miss
from flowpieces.series import THEMSELVES
from flowpieces.steps import check_step, step_has_two, step_short
from flowpieces.values import NIL, added, is_between
from flowpieces.words import is_sum, sum_at, sum_has_two

MOST_PIECES = 20


def check_letter(letter):
    """Refuse what is neither of the letters 0 and 1."""
    if not is_between(letter, 0, 1):
        raise InvalidLetter(letter)


def check_many(many):
    """Refuse what is no number of pieces for a calmest step."""
    if not is_between(many, 1, MOST_PIECES):
        raise InvalidNumber(many)


def has_back(step, letter):
    """Whether the short form of a step has a piece back with the letter."""
    check_step(step)
    check_letter(letter)
    return any([other == letter and number[0] < 0 for other, number in step_short(step)])


def lag_in(miss):
    """The lag of a step of the order 2 at least by its miss, None at the last length."""
    # The miss of a step of a greater order has longer words alone.
    return NIL if miss is None else added(sum_at(miss, (0, 0, 1)), sum_at(miss, (0, 1, 1)))


def lag_of(step):
    """The lag of a step over the letters 0 and 1 of the order 2 at least, a fraction."""
    check_step(step)
    if step_has_two(step):
        raise InvalidStep(step)
    order, miss = step_order_and_miss(step, 2)
    if order < 2:
        raise NotRight()
    return lag_in(miss)


def least_lag(many):
    """The least lag of steps that have so many pieces of a letter, none of them back, a fraction."""
    check_many(many)
    return 1, 24 * many * many


def calmest_step(many, letter):
    """The short form of the one step of the least lag with so many pieces of a letter, none of them back."""
    check_many(many)
    check_letter(letter)
    other = 1 - letter
    # The whole pieces of the other letter stand between those of this one, and half a piece at either end.
    end = ((other, (1, 2 * many)),)
    inner = ((letter, (1, many)), (other, (1, many))) * (many - 1)
    return end + inner + ((letter, (1, many)),) + end


def is_meaning(value):
    """Whether a value, whatever it is, is a sum of brackets over the letters 0 and 1 of a degree up to 6."""
    if not is_sum(value) or sum_has_two(value):
        return False
    return all([len(word) <= MOST_DEGREE for word, _ in value]) and bracket_coordinates(value) is not None


def order_and_miss_with(step, meaning):
    """The order of a step with a meaning of the letter 2, and its miss, None if the order is the last length."""
    check_step(step)
    if not is_meaning(meaning):
        raise InvalidMeaning(meaning)
    return pieces_order_and_miss(step_short(step), THEMSELVES[:2] + (meaning,), 2)


def order_with(step, meaning):
    """The order for two letters of a step with a meaning of the letter 2."""
    return order_and_miss_with(step, meaning)[0]


def miss_with(step, meaning):
    """The miss for two letters of a step with a meaning of the letter 2; None if the order is the last length."""
    return order_and_miss_with(step, meaning)[1]
