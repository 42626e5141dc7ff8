"""Names and wishes of workshops: what they are, and when a wish holds."""

from flowpieces.orders import last_length, step_order_and_miss
from flowpieces.steps import step_has_two, step_short
from flowpieces.values import is_between, is_letter

LONGEST_NAME = 12
MOST_PIECES = 60
# How many parts a wish with this word has.
SIZES = {"order": 4, "symmetric": 2, "forward": 3, "alike": 3, "pieces": 3}


def is_name(value):
    """Whether a value, whatever it is, can be a name."""
    if type(value) != str or not 1 <= len(value) <= LONGEST_NAME:
        return False
    return all(["a" <= sign <= "z" for sign in value])


def is_wish(value):
    """Whether a value, whatever it is, is a wish."""
    if type(value) != tuple or value == () or type(value[0]) != str:
        return False
    word = value[0]
    if SIZES.get(word, 0) != len(value) or not is_name(value[1]):
        return False
    if word == "order":
        return is_between(value[2], 2, 3) and is_between(value[3], 0, last_length(value[2]))
    if word == "forward":
        return is_letter(value[2])
    if word == "alike":
        return is_name(value[2])
    return word == "symmetric" or is_between(value[2], 0, MOST_PIECES)


def names_in(wish):
    """The names that a wish names."""
    return wish[1:] if wish[0] == "alike" else wish[1:2]


def order_holds(step, letters, number):
    """Whether a step has no letter beyond those let and this order at least."""
    if letters == 2 and step_has_two(step):
        return False
    return step_order_and_miss(step, letters)[0] >= number


def wish_holds(wish, steps):
    """Whether a wish holds with the steps of a dict under its names."""
    word = wish[0]
    step = steps[wish[1]]
    if word == "order":
        return order_holds(step, wish[2], wish[3])
    short = step_short(step)
    if word == "symmetric":
        return short == short[::-1]
    if word == "forward":
        return all([number[0] > 0 for letter, number in short if letter == wish[2]])
    if word == "alike":
        return short == step_short(steps[wish[2]])
    return len(short) <= wish[2]
