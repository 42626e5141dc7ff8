"""The checker: which papers show that a claim is so, whoever wrote them.

The functions holds_.. take the parts of a claim behind its word, in their order, and then the paper,
all of them of any kind; they tell whether the parts are right, the claim is so and the paper is one for it.
"""

from math import factorial

from flowpieces.brackets import MOST_DEGREE, are_shuffled, bracket_coordinates, flow_breaking
from flowpieces.forwards import lag_in
from flowpieces.orders import last_length, miss_part, pieces_order_and_miss, step_change, step_order_and_miss
from flowpieces.parts import MOST_ORDER, are_parts, parts_raise
from flowpieces.processed import order_and_lead
from flowpieces.relations import are_relations, kept_order_and_weights, make_nought_of, relations_have_two
from flowpieces.rules import made_of
from flowpieces.series import THEMSELVES
from flowpieces.steps import is_step, step_has_two, step_short, step_undoing
from flowpieces.swings import MOST_NEAR, near_bound, told_word
from flowpieces.values import NIL, ONE, is_between, is_fraction, is_pair, is_whole
from flowpieces.wholes import over_kinds
from flowpieces.words import is_sum, is_word, sum_at, sum_has_two


def is_empty(value):
    """Whether a value, whatever it is, is ()."""
    return type(value) == tuple and len(value) == 0


def is_step_over(value, letters):
    """Whether a value, whatever it is, is a step over so many letters."""
    return is_step(value) and (letters == 3 or not step_has_two(value))


def is_low_sum(value):
    """Whether a value, whatever it is, is a sum of a degree that is let in a claim."""
    return is_sum(value) and all([len(word) <= MOST_DEGREE for word, _ in value])


def is_length(value, has_two):
    """Whether a value, whatever it is, is a length, has_two telling whether the letter 2 stands in the claim."""
    return is_between(value, 1, 4 if has_two else 6)


def is_told_order(letters, number):
    """Whether two values, whatever they are, tell how many letters are let and an order for them."""
    return is_between(letters, 2, 3) and is_between(number, 0, last_length(letters))


def longest_run(word, letter):
    """How often a letter stands in a word at most with nothing between."""
    longest = run = 0
    for other in word:
        run = run + 1 if other == letter else 0
        longest = max(longest, run)
    return longest


def numbers_behind(numbers, piece, word):
    """The numbers of a series at all beginnings of a word, with one piece more, all times one number above 0."""
    letter, (upper, lower) = piece
    longest = longest_run(word, letter)
    # The numbers of the piece's exponential for as many letters, all times one number that makes them whole.
    factors = [factorial(longest) // factorial(many) for many in range(longest + 1)]
    for many in range(longest + 1):
        for at in range(longest):
            factors[many] = factors[many] * (upper if at < many else lower)
    made = []
    for end in range(len(word) + 1):
        total = numbers[end] * factors[0]
        start = end
        while start > 0 and word[start - 1] == letter:
            start = start - 1
            total = total + numbers[start] * factors[end - start]
        made.append(total)
    return made


def differs_at(step, word):
    """Whether the series of a step has a number other than 0 at a word."""
    numbers = [1] + [0] * len(word)
    for piece in step_short(step):
        numbers = numbers_behind(numbers, piece, word)
    return numbers[-1] != 0


def holds_alike(step, other, paper):
    """Both steps are alike."""
    return is_step(step) and is_step(other) and is_empty(paper) and step_short(step) == step_short(other)


def holds_unlike(step, other, paper):
    """Both steps are not alike; the paper is a word at which the one and the undoing of the other have a number."""
    if not (is_step(step) and is_step(other) and is_word(paper)):
        return False
    return paper != () and differs_at(step + step_undoing(other), paper)


def holds_order(step, letters, number, paper):
    """This is a step's order; the paper is a word of its miss."""
    if not is_told_order(letters, number) or not is_step_over(step, letters):
        return False
    order, miss = step_order_and_miss(step, letters)
    if order != number:
        return False
    return is_empty(paper) if miss is None else is_word(paper) and sum_at(miss, paper) != NIL


def holds_brackets(terms, paper):
    """The sum is one of brackets; the paper is its coordinates."""
    return is_low_sum(terms) and is_sum(paper) and bracket_coordinates(terms) == paper


def holds_no_brackets(terms, paper):
    """The sum is none of brackets."""
    return is_low_sum(terms) and is_empty(paper) and bracket_coordinates(terms) is None


def is_led_by_one(terms, length):
    """Whether two values, whatever they are, are a sum with the number 1 at () and a length for it."""
    return is_low_sum(terms) and is_length(length, sum_has_two(terms)) and sum_at(terms, ()) == ONE


def holds_flow(terms, length, paper):
    """The sum is of a flow."""
    return is_led_by_one(terms, length) and is_empty(paper) and flow_breaking(terms, length) is None


def holds_no_flow(terms, length, paper):
    """The sum is not of a flow; the paper is two words by which it is not."""
    if not is_led_by_one(terms, length) or not is_pair(paper):
        return False
    word, other = paper
    if not (is_word(word) and is_word(other)) or word == () or other == () or len(word) + len(other) > length:
        return False
    numbers, lowers = over_kinds(terms)
    return not are_shuffled(word, other, numbers, lowers)


def holds_follows(step, terms, length, paper):
    """The sum is the change that a step follows up to a length."""
    if not is_step(step) or not is_low_sum(terms) or not is_empty(paper):
        return False
    return is_length(length, step_has_two(step) or sum_has_two(terms)) and step_change(step, length) == terms


def holds_lag(step, lag, paper):
    """This is a step's lag."""
    if not is_step_over(step, 2) or not is_fraction(lag) or not is_empty(paper):
        return False
    order, miss = step_order_and_miss(step, 2)
    return order >= 2 and lag == lag_in(miss)


def holds_raises(parts, number, paper):
    """The parts raise an order."""
    return are_parts(parts) and is_between(number, 1, MOST_ORDER) and is_empty(paper) and parts_raise(parts, number)


def holds_no_raise(parts, number, paper):
    """The parts do not raise an order; the paper is a step of just this order.

    Where parts do not raise an order, each step of just this order is not of the next one in them.
    """
    if not are_parts(parts) or not is_between(number, 1, 3) or not is_step_over(paper, 2):
        return False
    return not parts_raise(parts, number) and step_order_and_miss(paper, 2)[0] == number


def holds_processed(step, letters, number, paper):
    """This is a step's processed order; the paper is a leading-in with which the step has it."""
    if not is_told_order(letters, number) or not is_step_over(step, letters):
        return False
    if order_and_lead(step, letters)[0] != number:
        return False
    if number == 0:
        return is_empty(paper)
    if not is_low_sum(paper) or (letters == 2 and sum_has_two(paper)) or bracket_coordinates(paper) is None:
        return False
    # What the paper means stands in the place of one letter more.
    pieces = ((3, ONE),) + step_short(step) + ((3, (-1, 1)),)
    return pieces_order_and_miss(pieces, THEMSELVES + (paper,), letters)[0] == number


def holds_kept(step, letters, relations, number, paper):
    """This is a step's kept order; the paper is weights that tell that it is no greater."""
    if not is_told_order(letters, number) or not is_step_over(step, letters) or not are_relations(relations):
        return False
    if letters == 2 and relations_have_two(relations):
        return False
    if kept_order_and_weights(step, letters, relations)[0] != number:
        return False
    if number == last_length(letters):
        return is_empty(paper)
    if not is_sum(paper) or (letters == 2 and sum_has_two(paper)):
        return False
    if not all([len(word) == number + 1 for word, _ in paper]):
        return False
    miss = miss_part(step_short(step), THEMSELVES, letters, number + 1)
    return made_of(miss, paper) != NIL and all([make_nought_of(paper, relation) for relation in relations])


def holds_swings(step, time, word, paper):
    """This is what a step does on the swing."""
    if not is_step_over(step, 2) or not is_fraction(time) or time[0] <= 0:
        return False
    return type(word) == str and is_empty(paper) and told_word(step, time) == word


def holds_bound(step, many, near, paper):
    """This is a step's bound, near."""
    if not is_step_over(step, 2) or not is_between(many, 1, MOST_NEAR) or not is_pair(near) or not is_empty(paper):
        return False
    if not is_whole(near[0]) or type(near[1]) != bool or step_order_and_miss(step, 2)[0] < 1:
        return False
    return near_bound(step, many) == near


# What tells whether a claim with this word holds, and of how many parts it is then.
CHECKS = {
    "alike": holds_alike,
    "unlike": holds_unlike,
    "order": holds_order,
    "brackets": holds_brackets,
    "no brackets": holds_no_brackets,
    "of a flow": holds_flow,
    "of no flow": holds_no_flow,
    "follows": holds_follows,
    "lag": holds_lag,
    "raises": holds_raises,
    "does not raise": holds_no_raise,
    "processed": holds_processed,
    "kept order": holds_kept,
    "swings": holds_swings,
    "bound": holds_bound,
}
SIZES = {
    "alike": 3,
    "unlike": 3,
    "order": 4,
    "brackets": 2,
    "no brackets": 2,
    "of a flow": 3,
    "of no flow": 3,
    "follows": 4,
    "lag": 3,
    "raises": 3,
    "does not raise": 3,
    "processed": 4,
    "kept order": 5,
    "swings": 4,
    "bound": 4,
}


def accepts(claim, paper):
    """Whether a claim is one for the checker and a paper shows that it is so, whatever both are."""
    if type(claim) != tuple or len(claim) == 0 or type(claim[0]) != str:
        return False
    word, *parts = claim
    if SIZES.get(word, 0) != len(claim):
        return False
    check = CHECKS[word]
    return check(*parts, paper)
