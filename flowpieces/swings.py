"""What steps do on the swing: at which lengths they stay within a bound, and how far they stray there.

A piece n / m is taken m times, so that all numbers are whole; what all pieces together are taken stands
as a number below.
"""

from math import factorial, isqrt

from flowpieces.errors import InvalidFraction, InvalidNumber, InvalidStep, NotRight, NotStaying
from flowpieces.orders import miss_part
from flowpieces.polynomials import (
    common_divisor,
    factors_by_power,
    poly_plus,
    poly_quotient,
    poly_times,
    without_divisor,
)
from flowpieces.roots import near_square_root
from flowpieces.series import THEMSELVES
from flowpieces.steps import check_step, step_has_two, step_short
from flowpieces.values import ONE, added, fraction_of, is_between, is_fraction, multiplied

MOST_NEAR = 10**6


def check_swung(step):
    """Refuse what is no step over the letters 0 and 1."""
    check_step(step)
    if step_has_two(step):
        raise InvalidStep(step)


def check_time(time):
    """Refuse what is no fraction above 0."""
    if not is_fraction(time) or time[0] <= 0:
        raise InvalidFraction(time)


def check_near(many):
    """Refuse what is no number that something is told near for."""
    if not is_between(many, 1, MOST_NEAR):
        raise InvalidNumber(many)


def swing_polynomials(step):
    """M and the number below: each of its four a polynomial in h h, those beside the slant divided by h."""
    first, above, below, second = [1], [], [], [1]
    lower = 1
    for letter, (many, parts) in step_short(step):
        lower = lower * parts
        if letter == 0:
            above = poly_plus([parts * number for number in above], first, many)
            second = poly_plus([parts * number for number in second], [0] + below, many)
            first, below = [parts * number for number in first], [parts * number for number in below]
        else:
            first = poly_plus([parts * number for number in first], [0] + above, -many)
            below = poly_plus([parts * number for number in below], second, -many)
            above, second = [parts * number for number in above], [parts * number for number in second]
    return first, above, below, second, lower


def swing_numbers(step, time):
    """M at a length, over whole numbers, and the number below."""
    first, above, below, second = 1, 0, 0, 1
    lower = 1
    for letter, number in step_short(step):
        many, parts = multiplied(number, time)
        lower = lower * parts
        if letter == 0:
            above, second = parts * above + many * first, parts * second + many * below
            first, below = parts * first, parts * below
        else:
            first, below = parts * first - many * above, parts * below - many * second
            above, second = parts * above, parts * second
    return first, above, below, second, lower


def swing_fractions(step, time):
    """The four numbers of M at a length, fractions."""
    *numbers, lower = swing_numbers(step, time)
    return [fraction_of(number, lower) for number in numbers]


def trace_side(numbers):
    """-1, 0 or 1 as the trace is, but for its sign, below, at or above 2."""
    first, _, _, second, lower = numbers
    trace = abs(first + second)
    return 0 if trace == 2 * lower else 1 if trace > 2 * lower else -1


def told_word(step, time):
    """What a step does on the swing at a length; both were checked before."""
    numbers = swing_numbers(step, time)
    side = trace_side(numbers)
    # With the determinant 1 the slant has the trace 2 or -2 and nothing beside it for 1 or -1 alone.
    if side < 0 or (numbers[1] == 0 and numbers[2] == 0 and side == 0):
        return "stays"
    return "creeps" if side == 0 else "grows"


def leaving_polynomial(step):
    """A polynomial in h h, above 0 at 0, whose smallest root above 0 is where a step stays no longer.

    4 less the square of the trace is 0 there. Where it only touches 0 the step stays if M is 1 or -1,
    and so just if the numbers beside the slant and the difference of those on it are 0.
    """
    first, above, below, second, _ = swing_polynomials(step)
    trace = poly_plus(first, second, 1)
    square = poly_times(trace, trace)
    common = common_divisor(without_divisor(above), without_divisor(below))
    slant = without_divisor(poly_plus(first, second, -1))
    if slant != []:
        common = common_divisor(common, slant)
    # The trace begins with 2 - h h, its square so with 4. Each root of the common divisor is one twice.
    rest = poly_quotient(without_divisor(square[1:]), without_divisor(poly_times(common, common)))
    made = [1]
    for at, factor in enumerate(factors_by_power(rest)):
        if at % 2 == 1:
            factor = poly_quotient(factor, common_divisor(factor, common))
        made = poly_times(made, factor)
    return made if made[0] > 0 else [-number for number in made]


def near_bound(step, many):
    """The bound, near, of a step of the order 1 at least."""
    # There are no more pieces of the letter 1 than pieces, and the bound is at most twice as many as they are.
    most = 4 * len(step) * len(step) + 1
    return near_square_root(leaving_polynomial(step), most, many)


def form_numbers(step, time):
    """The second and third number of the kept form at a length, and M with the number below."""
    numbers = swing_numbers(step, time)
    if trace_side(numbers) >= 0:
        raise NotStaying()
    first, above, below, second, _ = numbers
    sign = 1 if below > 0 else -1
    return fraction_of(sign * (second - first), abs(below)), fraction_of(-sign * above, abs(below)), numbers


def sum_of_roots(step, time):
    """What the stray at a length and 1 over it are together, a fraction."""
    slanted, last, (first, above, below, second, lower) = form_numbers(step, time)
    if (first + second) in (0, lower, -lower):
        # Each power of M but 1 and -1 is M, its inverse, or the opposite of one of them.
        squares = first * first + above * above + below * below + second * second
        return fraction_of(squares, lower * lower)
    together = added(ONE, last)
    gap = added(last, multiplied(multiplied(slanted, slanted), (-1, 4)))
    return added(multiplied(multiplied(together, together), (gap[1], gap[0])), (-2, 1))


def as_powers(numbers, lower, odd):
    """A polynomial in h h, over a number below, times h if it is odd, as a tuple of fractions by the powers of h."""
    made = [(0, 1)] if odd and numbers else []
    for power, number in enumerate(numbers):
        if power > 0:
            made.append((0, 1))
        made.append(fraction_of(number, lower))
    return tuple(made)


def swing_table(step):
    """M: two rows of two polynomials in the length, each a tuple of fractions."""
    check_swung(step)
    first, above, below, second, lower = swing_polynomials(step)
    ahead = (as_powers(first, lower, False), as_powers(above, lower, True))
    return ahead, (as_powers(below, lower, True), as_powers(second, lower, False))


def swing_at(step, time):
    """M at a length, a table of fractions."""
    check_swung(step)
    check_time(time)
    first, above, below, second = swing_fractions(step, time)
    return (first, above), (below, second)


def swing_word(step, time):
    """What a step does at a length: `stays`, `creeps` or `grows`."""
    check_swung(step)
    check_time(time)
    return told_word(step, time)


def swing_bound(step, many):
    """The greatest number below which a step of the order 1 at least stays at all lengths above 0, near."""
    check_swung(step)
    check_near(many)
    if miss_part(step_short(step), THEMSELVES, 2, 1) != ():
        raise NotRight()
    return near_bound(step, many)


def kept_form(step, time):
    """The triple (1, b, c) by which a step keeps q q + b q p + c p p at a length."""
    check_swung(step)
    check_time(time)
    slanted, last, _ = form_numbers(step, time)
    return ONE, slanted, last


def stray(step, time, many):
    """The least number of times that q q + p p can become what it was at first, near."""
    check_swung(step)
    check_time(time)
    check_near(many)
    upper, lower = sum_of_roots(step, time)
    # K is the greater one of two numbers with the product 1, so the least one is none of those tried.
    root = isqrt(many * many * (upper * upper - 4 * lower * lower))
    near = (many * upper + root) // (2 * lower)
    return near, lower * near * near + lower * many * many == upper * near * many


def swing_order(step):
    """The greatest power of the length up to which M is that of the swing's own flow."""
    check_swung(step)
    first, above, below, second, lower = swing_polynomials(step)
    order = 0
    while True:
        half, odd = (order + 1) // 2, (order + 1) % 2 == 1
        wanted = lower if half % 2 == 0 else -lower
        told = [(above, 1), (below, -1)] if odd else [(first, 1), (second, 1)]
        for numbers, sign in told:
            number = numbers[half] if half < len(numbers) else 0
            if number * factorial(order + 1) != sign * wanted:
                return order
        order = order + 1
