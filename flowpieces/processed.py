"""The order of steps behind a leading-in, and leading-ins that do for it.

For a step with the series S and the whole E a sum R is looked for, length by length, with R S = E R:
behind R the step then is right. All three are reckoned with as scaled sums (flowpieces.series).
"""

from math import factorial

from flowpieces.errors import NotRight
from flowpieces.orders import last_length, step_towards
from flowpieces.series import STEADY, THEMSELVES, rescaled, scale_of, scaled_logarithm, scaled_series, unscaled
from flowpieces.steps import check_step_over, step_short
from flowpieces.words import words_of


def lead_scales(scales):
    """Multiples of the scales of a series with which what leads it in is whole.

    A letter other than 1 gets the scale of 1, too, as lead_at puts a 1 in the place of each such letter.
    """
    return [scales[0] * scales[1], scales[1], scales[2] * scales[1]]


def short_gaps(lead, series, letters, length, scales):
    """For each word of a length the number of E R less that of R S, without R's words longer than the length less 2."""
    gaps = {}
    for word in words_of(letters, length):
        total = 0
        for cut in range(2, length + 1):
            ahead, behind = word[:cut], word[cut:]
            total = total + scale_of(ahead, scales) // factorial(cut) * lead.get(behind, 0)
            total = total - lead.get(word[: length - cut], 0) * series.get(word[length - cut :], 0)
        gaps[word] = total
    return gaps


def lead_at(word, gaps, scales):
    """The number of R at a word, by the gaps of the words one longer, if it is 0 at the words of the letter 1 alone."""
    total = 0
    factor = 1
    for at, letter in enumerate(word):
        total = total + factor * gaps[word[at:] + (1,) * (at + 1)]
        # The letter's place is taken by a 1.
        factor = factor * (scales[letter] // scales[1])
    return total // scales[1]


def next_lead(gaps, letters, length, scales):
    """The numbers of R at the words of a length by the gaps of the words one longer; None if there is no such R."""
    found = {word: lead_at(word, gaps, scales) for word in words_of(letters, length)}
    for word, gap in gaps.items():
        first, last = word[0], word[-1]
        if found[word[:-1]] * scales[last] - found[word[1:]] * scales[first] != gap:
            return None
    return found


def order_and_lead(step, letters):
    """The processed order of a step, R up to one length less, scaled, and the scales."""
    pieces = step_short(step)
    lead, scales = {(): 1}, [STEADY, STEADY, STEADY]
    for length in range(1, last_length(letters) + 1):
        series, narrow = scaled_series(pieces, THEMSELVES, length)
        scales = lead_scales(narrow)
        if length == 1:
            if any([series.get((letter,), 0) != narrow[letter] for letter in range(letters)]):
                return 0, lead, scales
            continue
        gaps = short_gaps(lead, rescaled(series, narrow, scales), letters, length, scales)
        found = next_lead(gaps, letters, length - 1, scales)
        if found is None:
            return length - 1, lead, scales
        # R stays 1 at ().
        lead = {**lead, **found}
    return last_length(letters), lead, scales


def step_leading_in(step, letters):
    """The processed order of a step, and a leading-in with which it has this order."""
    order, lead, scales = order_and_lead(step, letters)
    steady = [scale * STEADY for scale in scales]
    # The numbers 0 beside the letter 1 at words of this letter alone make R a sum of a flow, among all R.
    return order, unscaled(scaled_logarithm(rescaled(lead, scales, steady), order - 1), steady)


def processed_order(step, letters):
    """The greatest order, up to the last length, that a step has behind any sum of a flow; 0 for the order 0."""
    check_step_over(step, letters)
    return order_and_lead(step, letters)[0]


def right_leading_in(step, letters):
    """The processed order of a step of the order 1 at least, and a leading-in with which it has this order."""
    check_step_over(step, letters)
    order, leading = step_leading_in(step, letters)
    if order == 0:
        raise NotRight()
    return order, leading


def leading_in(step, letters):
    """A leading-in with which a step has its processed order, with shorter words alone: a sum of brackets."""
    return right_leading_in(step, letters)[1]


def leading_step(step, letters):
    """A step behind which a step has its processed order, or the order 4 (3 for three letters), if this is above it."""
    order, leading = right_leading_in(step, letters)
    return step_towards(leading, min(order, 4 if letters == 2 else 3) - 1)
