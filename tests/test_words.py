"""Words and sums: points 3 to 7 and flowpieces/words.py."""

import unittest
from fractions import Fraction
from itertools import product as choices

from flowpieces.errors import InvalidFraction, InvalidLength, InvalidSum, InvalidWord
from flowpieces.words import (
    bracket,
    exponential,
    is_sum,
    is_word,
    logarithm,
    number_at,
    part_of,
    plus,
    product,
    times_number,
)
from plain import as_dict, as_sum, plain_exponential, plain_logarithm, plain_product
from samples import (
    HALF,
    LESS,
    NIL,
    NO_FRACTIONS,
    NO_LENGTHS,
    NO_SUMS,
    NO_WORDS,
    ONE,
    WIDE,
    check_refused,
    fixed_source,
    pair_of,
    random_fraction,
    random_sum,
)

AHEAD, ASIDE, THIRD = (((0,), ONE),), (((1,), ONE),), (((2,), ONE),)
BOTH = (((0,), ONE), ((1,), ONE))
UNIT = (((), ONE),)
LONG_THIRD = (((0,), ONE), ((0, 1, 0, 1, 0, 1, 0, 1, 0, 1, 0, 2), ONE))


class Examples(unittest.TestCase):
    def test_what_they_are(self):
        self.assertIs(is_word((0, 2)), True)
        self.assertIs(is_word((3,)), False)
        self.assertIs(is_sum(BOTH), True)
        self.assertIs(is_sum((((1,), ONE), ((0,), ONE))), False)
        self.assertIs(is_sum((((0,), NIL),)), False)

    def test_adding(self):
        self.assertEqual(plus(AHEAD, ASIDE), BOTH)
        self.assertEqual(plus(BOTH, times_number(BOTH, LESS)), ())
        self.assertEqual(number_at(BOTH, (1,)), (1, 1))
        self.assertEqual(number_at(BOTH, ()), (0, 1))

    def test_multiplying(self):
        self.assertEqual(product(BOTH, AHEAD, 2), (((0, 0), (1, 1)), ((1, 0), (1, 1))))
        self.assertEqual(bracket(AHEAD, ASIDE, 2), (((0, 1), (1, 1)), ((1, 0), (-1, 1))))
        self.assertEqual(bracket(AHEAD, ASIDE, 1), ())

    def test_exponential_and_logarithm(self):
        self.assertEqual(exponential(AHEAD, 2), (((), (1, 1)), ((0,), (1, 1)), ((0, 0), (1, 2))))
        self.assertEqual(part_of(exponential(AHEAD, 3), 3), (((0, 0, 0), (1, 6)),))
        both_flows = product(exponential(AHEAD, 2), exponential(ASIDE, 2), 2)
        told = (((0,), (1, 1)), ((1,), (1, 1)), ((0, 1), (1, 2)), ((1, 0), (-1, 2)))
        self.assertEqual(logarithm(both_flows, 2), told)
        self.assertEqual(logarithm(exponential(BOTH, 4), 4), BOTH)
        with self.assertRaises(InvalidSum) as caught:
            exponential((((), ONE),), 2)
        self.assertEqual(caught.exception.given, (((), (1, 1)),))


class WhatTheyAre(unittest.TestCase):
    def test_words(self):
        for length in range(5):
            for word in choices((0, 1, 2), repeat=length):
                self.assertIs(is_word(word), True)
        self.assertIs(is_word((0, 1, 2) * 4), True)

    def test_no_words(self):
        for value in NO_WORDS:
            self.assertIs(is_word(value), False)

    def test_sums(self):
        right = [
            (), UNIT, BOTH, (((), LESS), ((2,), HALF), ((0, 0), (3, 7)), ((0, 1), (-3, 7)), ((1, 0), WIDE)),
            LONG_THIRD, (((1, 1), ONE), ((0, 0, 0), ONE)),
        ]
        for value in right:
            self.assertIs(is_sum(value), True)

    def test_no_sums(self):
        for value in NO_SUMS:
            self.assertIs(is_sum(value), False)

    def test_all_sums_of_four_hundred_pairs(self):
        words = list(choices((0, 1), repeat=12))[:400]
        self.assertIs(is_sum(tuple((word, ONE) for word in words)), True)
        words[200], words[201] = words[201], words[200]
        self.assertIs(is_sum(tuple((word, ONE) for word in words)), False)

    def test_names_of_the_parameter(self):
        self.assertIs(is_word(value=(0,)), True)
        self.assertIs(is_sum(value=()), True)


class Adding(unittest.TestCase):
    def test_plus(self):
        source = fixed_source(1)
        for _ in range(60):
            first, second = random_sum(source, 3, 12, 20), random_sum(source, 3, 3, 20)
            numbers = as_dict(first)
            for word, number in as_dict(second).items():
                numbers[word] = numbers.get(word, 0) + number
            self.assertEqual(plus(first, second), as_sum(numbers))
            self.assertEqual(plus(terms=first, other=second), plus(second, first))
            self.assertTrue(is_sum(plus(first, second)))

    def test_plus_of_nought(self):
        self.assertEqual(plus((), ()), ())
        self.assertEqual(plus(BOTH, ()), BOTH)
        self.assertEqual(plus((), BOTH), BOTH)

    def test_sums_come_in_order(self):
        self.assertEqual(plus((((1, 0), ONE),), (((2,), ONE),)), (((2,), ONE), ((1, 0), ONE)))
        self.assertEqual(plus((((0, 1), HALF),), (((), ONE), ((0, 1), HALF))), (((), ONE), ((0, 1), ONE)))

    def test_times_number(self):
        terms, told = (((0,), (2, 3)), ((1, 2), (-5, 1))), (((0,), (-1, 5)), ((1, 2), (3, 2)))
        self.assertEqual(times_number(terms, (-3, 10)), told)
        self.assertEqual(times_number(BOTH, NIL), ())
        self.assertEqual(times_number((), HALF), ())
        self.assertEqual(times_number(terms=BOTH, fraction=WIDE), (((0,), WIDE), ((1,), WIDE)))
        self.assertEqual(times_number((((0,), WIDE),), WIDE), (((0,), pair_of(Fraction(*WIDE) ** 2)),))

    def test_number_at(self):
        terms = (((), LESS), ((0, 1), HALF), ((2,) * 12, (5, 3)))
        self.assertEqual(number_at(terms, ()), LESS)
        self.assertEqual(number_at(terms, (0, 1)), HALF)
        self.assertEqual(number_at(terms, (1, 0)), NIL)
        self.assertEqual(number_at(terms=terms, word=(2,) * 12), (5, 3))
        self.assertEqual(number_at((), ()), NIL)

    def test_part_of(self):
        terms = (((), LESS), ((0,), HALF), ((2,), ONE), ((0, 1), HALF), ((2,) * 12, (5, 3)))
        self.assertEqual(part_of(terms, 0), (((), LESS),))
        self.assertEqual(part_of(terms, 1), (((0,), HALF), ((2,), ONE)))
        self.assertEqual(part_of(terms, 2), (((0, 1), HALF),))
        self.assertEqual(part_of(terms, 7), ())
        self.assertEqual(part_of(terms=terms, length=12), (((2,) * 12, (5, 3)),))
        self.assertEqual(part_of((), 0), ())


class Multiplying(unittest.TestCase):
    def test_product(self):
        source = fixed_source(2)
        for letters, most in ((2, 6), (3, 4)):
            for length in range(1, most + 1):
                for _ in range(8):
                    first, second = random_sum(source, letters, 5, 15), random_sum(source, letters, 12, 15)
                    told = as_sum(plain_product(as_dict(first), as_dict(second), length))
                    self.assertEqual(product(first, second, length), told)
                    self.assertEqual(product(terms=first, other=second, length=length), told)

    def test_words_cancel(self):
        # (0,) with (1, 0) and (0, 1) with (0,) make one word.
        first, second = (((0,), ONE), ((0, 1), ONE)), (((0,), ONE), ((1, 0), LESS))
        self.assertEqual(product(first, second, 3), (((0, 0), ONE),))
        self.assertEqual(product(first, second, 4), (((0, 0), ONE), ((0, 1, 1, 0), LESS)))

    def test_longer_words_are_left_out(self):
        self.assertEqual(product(AHEAD, ASIDE, 1), ())
        self.assertEqual(product(AHEAD, UNIT, 1), AHEAD)
        self.assertEqual(product((((0,) * 6, ONE),), UNIT, 6), (((0,) * 6, ONE),))
        self.assertEqual(product((((0,) * 7, ONE),), UNIT, 6), ())
        self.assertEqual(product((((2,) * 4, ONE),), UNIT, 4), (((2,) * 4, ONE),))

    def test_nought_and_one(self):
        for terms in ((), UNIT, BOTH, THIRD):
            self.assertEqual(product(terms, (), 4), ())
            self.assertEqual(product((), terms, 4), ())
            self.assertEqual(product(terms, UNIT, 4), terms)
            self.assertEqual(product(UNIT, terms, 4), terms)
            self.assertEqual(bracket(UNIT, terms, 4), ())

    def test_bracket(self):
        source = fixed_source(3)
        for letters, most in ((2, 6), (3, 4)):
            for length in range(1, most + 1):
                first, second = random_sum(source, letters, 4, 12), random_sum(source, letters, 12, 12)
                there, back = product(first, second, length), product(second, first, length)
                told = plus(there, times_number(back, LESS))
                self.assertEqual(bracket(first, second, length), told)
                self.assertEqual(bracket(terms=first, other=second, length=length), told)
                self.assertEqual(bracket(second, first, length), times_number(told, LESS))
                self.assertEqual(bracket(first, first, length), ())

    def test_wide_numbers(self):
        terms = (((0,), WIDE),)
        self.assertEqual(product(terms, terms, 2), (((0, 0), pair_of(Fraction(*WIDE) ** 2)),))


class ExponentialAndLogarithm(unittest.TestCase):
    def test_both_by_their_powers(self):
        source = fixed_source(4)
        for letters, most in ((2, 6), (3, 4)):
            for length in range(1, most + 1):
                terms = random_sum(source, letters, 7, 14, least=1)
                self.assertEqual(exponential(terms, length), plain_exponential(terms, length))
                self.assertEqual(exponential(terms=terms, length=length), plain_exponential(terms, length))
                flow = UNIT + terms
                self.assertEqual(logarithm(flow, length), plain_logarithm(flow, length))
                self.assertEqual(logarithm(terms=flow, length=length), plain_logarithm(flow, length))

    def test_each_undoes_the_other_one(self):
        source = fixed_source(5)
        for letters, length in ((2, 1), (2, 5), (2, 6), (3, 1), (3, 4)):
            for _ in range(5):
                terms = random_sum(source, letters, length, 20, least=1)
                self.assertEqual(logarithm(exponential(terms, length), length), terms)
                self.assertEqual(exponential(logarithm(UNIT + terms, length), length), UNIT + terms)

    def test_nought_and_one(self):
        self.assertEqual(exponential((), 1), UNIT)
        self.assertEqual(exponential((), 6), UNIT)
        self.assertEqual(logarithm(UNIT, 1), ())
        self.assertEqual(logarithm(UNIT, 6), ())

    def test_longer_words_are_left_out(self):
        self.assertEqual(exponential((((0, 0), ONE),), 1), UNIT)
        self.assertEqual(exponential((((0, 0), ONE),), 4), (((), ONE), ((0, 0), ONE), ((0, 0, 0, 0), HALF)))
        self.assertEqual(logarithm(UNIT + (((0,) * 12, ONE),), 6), ())

    def test_greatest_lengths(self):
        self.assertEqual(number_at(exponential(AHEAD, 6), (0,) * 6), (1, 720))
        self.assertEqual(number_at(exponential(THIRD, 4), (2,) * 4), (1, 24))
        self.assertEqual(number_at(logarithm(UNIT + AHEAD, 6), (0,) * 6), (-1, 6))
        self.assertEqual(number_at(logarithm(UNIT + THIRD, 3), (2,) * 3), (1, 3))

    def test_what_is_returned_may_be_passed_whatever_its_size(self):
        terms = (((0,), WIDE), ((1,), pair_of(1 / Fraction(*WIDE))))
        self.assertEqual(logarithm(exponential(terms, 6), 6), terms)


class Refusals(unittest.TestCase):
    def test_two_arguments(self):
        check_refused(self, number_at, {"terms": BOTH, "word": (0,)}, "terms", NO_SUMS, InvalidSum)
        check_refused(self, number_at, {"terms": BOTH, "word": (0,)}, "word", NO_WORDS, InvalidWord)
        check_refused(self, plus, {"terms": BOTH, "other": AHEAD}, "terms", NO_SUMS, InvalidSum)
        check_refused(self, plus, {"terms": BOTH, "other": AHEAD}, "other", NO_SUMS, InvalidSum)
        check_refused(self, times_number, {"terms": BOTH, "fraction": HALF}, "terms", NO_SUMS, InvalidSum)
        check_refused(self, times_number, {"terms": BOTH, "fraction": HALF}, "fraction", NO_FRACTIONS, InvalidFraction)

    def test_part_of(self):
        lengths = [value for value in NO_LENGTHS if type(value) is not int] + [-1, 13, 10**399, -(10**399)]
        check_refused(self, part_of, {"terms": BOTH, "length": 1}, "terms", NO_SUMS, InvalidSum)
        check_refused(self, part_of, {"terms": BOTH, "length": 1}, "length", lengths, InvalidLength)
        check_refused(self, part_of, {"terms": THIRD, "length": 1}, "length", [-1, 13], InvalidLength)

    def test_products(self):
        for function in (product, bracket):
            right = {"terms": BOTH, "other": AHEAD, "length": 2}
            check_refused(self, function, right, "terms", NO_SUMS, InvalidSum)
            check_refused(self, function, right, "other", NO_SUMS, InvalidSum)
            check_refused(self, function, right, "length", NO_LENGTHS, InvalidLength)

    def test_exponential_and_logarithm(self):
        right = {"terms": BOTH, "length": 2}
        others = [UNIT, UNIT + BOTH, (((), LESS), ((2,), ONE))]
        check_refused(self, exponential, right, "terms", list(NO_SUMS) + others, InvalidSum)
        check_refused(self, exponential, right, "length", NO_LENGTHS, InvalidLength)
        right = {"terms": UNIT + BOTH, "length": 2}
        others = [(), BOTH, (((), LESS),), (((), (2, 1)), ((0,), ONE)), (((), HALF), ((2,), ONE))]
        check_refused(self, logarithm, right, "terms", list(NO_SUMS) + others, InvalidSum)
        check_refused(self, logarithm, right, "length", NO_LENGTHS, InvalidLength)

    def test_the_letter_two_lets_lengths_up_to_four(self):
        for third in (THIRD, LONG_THIRD, (((0, 2, 0), ONE),)):
            for function in (product, bracket):
                for terms, other in ((third, BOTH), (BOTH, third)):
                    right = {"terms": terms, "other": other, "length": 4}
                    function(**right)
                    check_refused(self, function, right, "length", [5, 6], InvalidLength)
            exponential(third, 4)
            check_refused(self, exponential, {"terms": third, "length": 4}, "length", [5, 6], InvalidLength)
            logarithm(UNIT + third, 4)
            check_refused(self, logarithm, {"terms": UNIT + third, "length": 4}, "length", [5, 6], InvalidLength)

    def test_the_number_two_is_not_the_letter_two(self):
        terms = (((0,), (2, 1)), ((0, 1), (1, 2)))
        product(terms, terms, 6)
        bracket(terms, terms, 6)
        exponential(terms, 6)
        logarithm(UNIT + terms, 6)

    def test_the_first_wrong_argument_is_refused(self):
        check_refused(self, number_at, {"terms": None, "word": None}, "terms", [7], InvalidSum)
        check_refused(self, plus, {"terms": None, "other": None}, "terms", [7], InvalidSum)
        check_refused(self, times_number, {"terms": None, "fraction": None}, "terms", [7], InvalidSum)
        check_refused(self, part_of, {"terms": None, "length": None}, "terms", [7], InvalidSum)
        for function in (product, bracket):
            check_refused(self, function, {"terms": None, "other": None, "length": None}, "terms", [7], InvalidSum)
            check_refused(self, function, {"terms": BOTH, "other": None, "length": None}, "other", [7], InvalidSum)
        check_refused(self, exponential, {"terms": None, "length": None}, "terms", [7, UNIT], InvalidSum)
        check_refused(self, logarithm, {"terms": None, "length": None}, "terms", [7, BOTH], InvalidSum)

    def test_names_in_any_order(self):
        self.assertEqual(product(length=2, other=AHEAD, terms=BOTH), product(BOTH, AHEAD, 2))
        with self.assertRaises(InvalidSum):
            product(length=None, other=None, terms=None)


class EqualCalls(unittest.TestCase):
    def test_equal_results_and_unchanged_arguments(self):
        source = fixed_source(6)
        terms = random_sum(source, 2, 4, 12, least=1)
        kept = tuple((tuple(word), tuple(number)) for word, number in terms)
        number = random_fraction(source)
        for _ in range(2):
            self.assertEqual(product(terms, terms, 6), product(kept, kept, 6))
            self.assertEqual(exponential(terms, 6), exponential(kept, 6))
            self.assertEqual(times_number(terms, number), times_number(kept, number))
        self.assertEqual(terms, kept)


if __name__ == "__main__":
    unittest.main()
