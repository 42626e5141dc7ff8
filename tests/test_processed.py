"""Steps behind a leading-in: points 3 to 5, 14 and 21 and flowpieces/processed.py."""

import unittest
from fractions import Fraction

from flowpieces.brackets import is_bracket_sum, is_of_flow, least_words, nested
from flowpieces.errors import InvalidLetters, InvalidStep, NotRight
from flowpieces.orders import order_of, step_towards
from flowpieces.parts import in_parts, raises_twice
from flowpieces.processed import leading_in, leading_step, processed_order
from flowpieces.relations import kept_order, kept_weights
from flowpieces.steps import is_step, joined, timed, undoing
from flowpieces.words import bracket, exponential, plus, times_number
from plain import as_dict, plain_exponential, plain_product, plain_series, plain_whole
from samples import (
    HALF,
    LESS,
    NIL,
    NO_LETTERS,
    NO_STEPS,
    ONE,
    WIDE,
    check_refused,
    fixed_source,
    pair_of,
    random_number,
    random_step,
)

LEAD, LEAP = ((0, ONE), (1, ONE)), ((0, HALF), (1, ONE), (0, HALF))
THREE = LEAD + ((2, ONE),)
LEAP3 = ((0, HALF), (1, HALF), (2, ONE), (1, HALF), (0, HALF))
SIXTHS = (HALF, (2, 3), (5, 6), LESS)
LAST = {2: 6, 3: 4}


def straight(letters):
    return tuple(((letter,), ONE) for letter in range(letters))


def behind(leading, step):
    return joined(joined(leading, step), undoing(leading))


def order_behind(leading, step, letters):
    """The order of the step behind the exponential of a sum of brackets, by all words up to the last length."""
    last = LAST[letters]
    ahead = as_dict(plain_exponential(leading, last))
    after = as_dict(plain_exponential(times_number(leading, LESS), last))
    found = plain_product(plain_product(ahead, plain_series(step, last), last), after, last)
    whole = plain_whole(letters, last)
    return min([len(word) - 1 for word in whole if found.get(word, 0) != whole[word]] + [last])


def bracket_rank(vectors):
    """How many of these dicts are no sums of multiples of those ahead of them."""
    rows = []
    for vector in vectors:
        rest = {word: number for word, number in vector.items() if number}
        for row in rows:
            lead = min(row)
            factor = rest.get(lead, 0) / row[lead]
            rest = {word: rest.get(word, 0) - factor * row.get(word, 0) for word in {**rest, **row}}
            rest = {word: number for word, number in rest.items() if number}
        if rest:
            rows.append(rest)
            rows.sort(key=min)
    return len(rows)


def can_be_led_further(leading, step, letters, order):
    """Whether what is missing behind the leading-in is the bracket of all letters with some sum of brackets."""
    last = order + 1
    ahead = as_dict(plain_exponential(leading, last))
    after = as_dict(plain_exponential(times_number(leading, LESS), last))
    found = plain_product(plain_product(ahead, plain_series(step, last), last), after, last)
    whole = plain_whole(letters, last)
    gap = {word: found.get(word, 0) - whole[word] for word in whole if len(word) == last}
    brackets = [as_dict(bracket(straight(letters), nested(word), last)) for word in least_words(letters, order)]
    return bracket_rank(brackets) == bracket_rank(brackets + [gap])


class Examples(unittest.TestCase):
    def test_them(self):
        self.assertEqual(processed_order(LEAD, 2), 2)
        self.assertEqual(processed_order(LEAP, 2), 2)
        self.assertEqual(processed_order(((0, ONE), (1, HALF)), 2), 0)
        self.assertEqual(order_of(behind(leading_step(LEAD, 2), LEAD), 2), 2)
        self.assertGreater(len(leading_in(LEAD, 2)), 0)

    def test_by_hand(self):
        self.assertEqual(order_of(behind(((0, (-1, 2)),), LEAD), 2), 2)
        # Behind a letter 0 less and a letter 1 more by the same lead gets to the same.
        self.assertEqual(order_behind((((0,), (-1, 2)),), LEAD, 2), 2)
        self.assertEqual(order_behind((((1,), HALF),), LEAD, 2), 2)
        # A half of both brackets alike would be missing to leap; what is missing are unlike ones.
        self.assertIs(can_be_led_further((), LEAP, 2, 2), False)
        self.assertIs(can_be_led_further((), LEAD, 2, 1), True)


class Checks(unittest.TestCase):
    def check_processed(self, step, letters):
        """All that is told of one step, checked by all words; tells the processed order."""
        last = LAST[letters]
        order = processed_order(step, letters)
        self.assertEqual(processed_order(letters=letters, step=step), order)
        self.assertGreaterEqual(order, order_of(step, letters))
        if order_of(step, letters) == 0:
            self.assertEqual(order, 0)
            for function in (leading_in, leading_step):
                with self.assertRaises(NotRight):
                    function(step, letters)
            return order
        leading = leading_in(step, letters)
        self.assertEqual(leading_in(letters=letters, step=step), leading)
        self.assertIs(is_bracket_sum(leading), True)
        self.assertTrue(all(len(word) < order and max(word) < letters for word, _ in leading))
        self.assertEqual(order_behind(leading, step, letters), order)
        if order < last:
            self.assertIs(can_be_led_further(leading, step, letters, order), False)
        before = leading_step(step, letters)
        self.assertEqual(leading_step(letters=letters, step=step), before)
        self.assertIs(is_step(before), True)
        self.assertTrue(all(letter < letters for letter, _ in before))
        told = order_of(behind(before, step), letters)
        self.assertGreaterEqual(told, min(order, 4 if letters == 2 else 3))
        self.assertLessEqual(told, order)
        return order


class ProcessedOrders(Checks):
    def test_steps_behind_others_keep_theirs(self):
        source = fixed_source(121)
        for letters, step, order in ((2, LEAD, 2), (2, LEAP, 2), (3, THREE, 1), (3, LEAP3, 2)):
            self.assertEqual(self.check_processed(step, letters), order)
            for pieces in (1, 2, 4):
                changed = behind(random_step(source, letters, pieces), step)
                self.assertEqual(self.check_processed(changed, letters), order)

    def test_steps_of_the_order_nought(self):
        for letters in (2, 3):
            for step in ((), ((0, ONE),), ((0, NIL), (1, ONE)), ((0, ONE), (1, HALF)), timed(THREE[:letters], LESS)):
                self.assertEqual(self.check_processed(step, letters), 0)
        self.assertEqual(self.check_processed(LEAP, 3), 0)

    def test_steps_that_are_led_to_each_order(self):
        # What follows the sum of all letters and one bracket more, behind any step.
        source = fixed_source(122)
        for letters in (2, 3):
            for degree in range(2, LAST[letters] + 1):
                word = source.choice(least_words(letters, degree))
                change = plus(straight(letters), times_number(nested(word), random_number(source)))
                step = step_towards(change, min(degree, 4))
                step = behind(random_step(source, letters, 1), step)
                order = self.check_processed(step, letters)
                self.assertEqual(order, min(degree, 5) - 1 if (letters, degree) != (2, 2) else 2)

    def test_missing_brackets_with_all_letters_can_be_led_away(self):
        source = fixed_source(123)
        for letters, degree in ((2, 2), (2, 3), (3, 2), (3, 3)):
            word = source.choice(least_words(letters, degree - 1))
            inner = times_number(nested(word), random_number(source))
            change = plus(straight(letters), bracket(straight(letters), inner, degree))
            step = step_towards(change, degree)
            self.assertLess(order_of(step, letters), degree)
            self.assertGreaterEqual(self.check_processed(step, letters), degree)

    def test_the_last_length(self):
        source = fixed_source(124)
        step = behind(random_step(source, 2, 1), step_towards(straight(2), 6))
        self.assertEqual(processed_order(step, 2), 6)
        leading = leading_in(step, 2)
        self.assertTrue(all(len(word) < 6 for word, _ in leading))
        self.assertIs(is_bracket_sum(leading), True)
        self.assertEqual(order_behind(leading, step, 2), 6)
        self.assertGreaterEqual(order_of(behind(leading_step(step, 2), step), 2), 4)
        self.assertEqual(self.check_processed(behind(((2, ONE),), step_towards(straight(3), 4)), 3), 4)

    def test_orders_above_the_last_length(self):
        # 27, 84, 110 and 133 to the power 5 are together 144 to the power 5.
        ends = ((1, 4), (1, 3), (5, 12), (-1, 2), (-1, 2), (5, 12), (1, 3), (1, 4))
        half = ((9, 140), (1, 5), (11, 42), (19, 60), (-12, 35))
        step = in_parts(in_parts(LEAP3, ends), half + half[::-1])
        self.assertIs(raises_twice(half + half[::-1], 4), True)
        self.assertEqual((order_of(step, 3), processed_order(step, 3), leading_in(step, 3)), (4, 4, ()))
        changed = behind(((0, HALF), (2, LESS)), step)
        self.assertEqual((order_of(changed, 3), processed_order(changed, 3)), (1, 4))
        self.assertTrue(all(len(word) < 4 for word, _ in leading_in(changed, 3)))
        self.assertGreaterEqual(order_of(behind(leading_step(changed, 3), changed), 3), 3)
        self.assertEqual((kept_order(step, 3, ()), kept_weights(step, 3, ())), (4, None))

    def test_parts_and_processed_orders(self):
        source = fixed_source(125)
        raised = in_parts(LEAP, SIXTHS)
        self.assertEqual(order_of(raised, 2), 3)
        order = self.check_processed(raised, 2)
        self.assertEqual(order, 4)
        for _ in range(3):
            step = behind(random_step(source, 2, 2), raised)
            self.assertLess(order_of(step, 2), 3)
            self.assertEqual(self.check_processed(step, 2), order)

    def test_letters_that_are_not_needed(self):
        step = ((0, HALF), (2, NIL), (0, HALF), (1, ONE), (2, ONE))
        self.assertEqual(self.check_processed(step, 3), processed_order(THREE, 3))

    def test_wide_steps(self):
        source = fixed_source(126)
        other = (10**399 + 9, 10**398)
        for step in (LEAD, LEAP):
            changed = behind(tuple((at % 2, (WIDE, other, HALF)[at % 3]) for at in range(28)), step)
            self.assertEqual(processed_order(changed, 2), 2)
            leading = leading_in(changed, 2)
            self.assertTrue(is_bracket_sum(leading) and all(len(word) == 1 for word, _ in leading))
            self.assertEqual(order_of(behind(leading_step(changed, 2), changed), 2), 2)
        rest = pair_of(1 - Fraction(*WIDE))
        self.assertEqual(self.check_processed(((0, WIDE), (1, ONE), (0, rest)), 2), 2)
        self.assertEqual(processed_order(random_step(source, 3, 60), 3), 0)

    def test_leading_ins_are_of_a_flow(self):
        self.assertIs(is_of_flow(exponential(leading_in(behind(((1, ONE), (0, HALF)), LEAD), 2), 6), 6), True)


class Refusals(unittest.TestCase):
    def test_all(self):
        for function in (processed_order, leading_in, leading_step):
            right = {"step": LEAD, "letters": 2}
            check_refused(self, function, right, "step", NO_STEPS, InvalidStep)
            check_refused(self, function, right, "letters", NO_LETTERS, InvalidLetters)
            with_two = THREE, ((2, NIL),), LEAD + ((2, NIL),), ((2, ONE), (2, LESS)) + LEAD
            check_refused(self, function, right, "step", with_two, InvalidStep)
            check_refused(self, function, {"step": None, "letters": None}, "step", [7], InvalidStep)
            check_refused(self, function, {"step": THREE, "letters": None}, "letters", [4, None], InvalidLetters)


if __name__ == "__main__":
    unittest.main()
