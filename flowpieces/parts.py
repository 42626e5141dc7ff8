"""Steps in parts, and which parts raise the order of all steps."""

from flowpieces.errors import InvalidNumber, InvalidParts
from flowpieces.steps import check_step, step_short
from flowpieces.values import ONE, check_letters, is_between, is_fraction, multiplied, over_one_number

MOST_ORDER = 10
# Parts that raise the order 2, with the sum 1 and the sum of their cubes 0; not the same read from their
# end, or else they would raise the order of a symmetric step twice.
SIXTHS = ((1, 2), (2, 3), (5, 6), (-1, 1))


def are_parts(value):
    """Whether a value, whatever it is, is a tuple of one fraction or more."""
    return type(value) == tuple and len(value) > 0 and all([is_fraction(number) for number in value])


def check_parts(parts):
    """Refuse what is no parts."""
    if not are_parts(parts):
        raise InvalidParts(parts)


def check_order(order, most):
    """Refuse what is no order from 1 to the most."""
    if not is_between(order, 1, most):
        raise InvalidNumber(order)


def step_in_parts(step, parts):
    """A step in parts, with all its pieces; both were checked before."""
    return tuple([(letter, multiplied(number, part)) for part in parts for letter, number in step])


def parts_raise(parts, order):
    """Whether the sum of the parts is 1 and that of their powers above the order is 0."""
    uppers, lower = over_one_number(parts)
    if sum(uppers) != lower:
        return False
    powers = list(uppers)
    for _ in range(order):
        powers = [power * upper for power, upper in zip(powers, uppers)]
    return sum(powers) == 0


def plain_step(letters, order):
    """A step of just this order, from 1 to 3."""
    lead = tuple([(letter, ONE) for letter in range(letters)])
    if order == 1:
        return lead
    half = step_in_parts(lead, ((1, 2),))
    leap = step_short(half + half[::-1])
    return leap if order == 2 else step_short(step_in_parts(leap, SIXTHS))


def in_parts(step, parts):
    """A step in parts, with all pieces as they come."""
    check_step(step)
    check_parts(parts)
    return step_in_parts(step, parts)


def raises(parts, order):
    """Whether each step of this order is in these parts of the next order at least."""
    check_parts(parts)
    check_order(order, MOST_ORDER)
    return parts_raise(parts, order)


def raises_twice(parts, order):
    """Whether each symmetric step of this even order is in these parts of the next order but one at least."""
    check_parts(parts)
    if parts != parts[::-1]:
        raise InvalidParts(parts)
    check_order(order, MOST_ORDER)
    if order % 2 == 1:
        raise InvalidNumber(order)
    return parts_raise(parts, order)


def unraised_step(parts, letters, order):
    """A step of just this order that in these parts is not of the next one; None if the parts raise the order."""
    check_parts(parts)
    check_letters(letters)
    check_order(order, 3 if letters == 2 else 2)
    if parts_raise(parts, order):
        return None
    # Any step of just this order does: in these parts its miss only comes times a number other than 0.
    return plain_step(letters, order)
