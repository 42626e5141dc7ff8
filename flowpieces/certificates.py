"""Certificates: pairs of a claim and a paper that the checker accepts."""

from flowpieces.brackets import bracket_coordinates, check_low_sum, flow_breaking
from flowpieces.errors import InvalidSum
from flowpieces.forwards import lag_of
from flowpieces.orders import change_followed, step_order_and_miss
from flowpieces.parts import check_order, check_parts, parts_raise, plain_step
from flowpieces.processed import step_leading_in
from flowpieces.relations import check_kept, kept_order_and_weights
from flowpieces.steps import check_step_over, parting_word
from flowpieces.swings import swing_bound, swing_word
from flowpieces.values import ONE, check_length
from flowpieces.words import sum_at, sum_has_two


def certify_likeness(step, other):
    """That two steps are alike, or that they are not."""
    word = parting_word(step, other)
    if word is None:
        return ("alike", step, other), ()
    return ("unlike", step, other), word


def certify_order(step, letters):
    """A step's order."""
    check_step_over(step, letters)
    order, miss = step_order_and_miss(step, letters)
    return ("order", step, letters, order), () if miss is None else miss[0][0]


def certify_brackets(terms):
    """That a sum is one of brackets, or that it is none."""
    check_low_sum(terms)
    found = bracket_coordinates(terms)
    if found is None:
        return ("no brackets", terms), ()
    return ("brackets", terms), found


def certify_flow(terms, length):
    """That a sum with the number 1 at () is of a flow up to a length, or that it is not."""
    check_low_sum(terms)
    if sum_at(terms, ()) != ONE:
        raise InvalidSum(terms)
    check_length(length, sum_has_two(terms))
    words = flow_breaking(terms, length)
    if words is None:
        return ("of a flow", terms, length), ()
    return ("of no flow", terms, length), words


def certify_followed(step, length):
    """The change that a step follows up to a length."""
    return ("follows", step, change_followed(step, length), length), ()


def certify_lag(step):
    """A step's lag."""
    return ("lag", step, lag_of(step)), ()


def certify_parts(parts, order):
    """That parts raise an order from 1 to 3, or that they do not."""
    check_parts(parts)
    check_order(order, 3)
    if parts_raise(parts, order):
        return ("raises", parts, order), ()
    return ("does not raise", parts, order), plain_step(2, order)


def certify_processed(step, letters):
    """A step's processed order."""
    check_step_over(step, letters)
    order, leading = step_leading_in(step, letters)
    return ("processed", step, letters, order), leading


def certify_kept(step, letters, relations):
    """A step's kept order."""
    check_kept(step, letters, relations)
    order, telling = kept_order_and_weights(step, letters, relations)
    return ("kept order", step, letters, relations, order), () if telling is None else telling


def certify_swing(step, time):
    """What a step does on the swing at a length."""
    return ("swings", step, time, swing_word(step, time)), ()


def certify_bound(step, many):
    """A step's bound, near."""
    return ("bound", step, many, swing_bound(step, many)), ()
