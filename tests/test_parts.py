"""Steps in parts: points 3 to 5 and 20 and flowpieces/parts.py."""

import unittest
from fractions import Fraction

from flowpieces.errors import InvalidLetters, InvalidNumber, InvalidParts, InvalidStep
from flowpieces.orders import order_of, step_towards
from flowpieces.parts import in_parts, raises, raises_twice, unraised_step
from flowpieces.steps import is_step, is_symmetric, joined, mirrored, timed
from plain import plain_order_and_miss
from samples import (
    HALF,
    LESS,
    NIL,
    NO_FRACTIONS,
    NO_LETTERS,
    NO_STEPS,
    ONE,
    STRANGE,
    WIDE,
    check_refused,
    fixed_source,
    pair_of,
    random_fraction,
    random_step,
)

LEAD, LEAP = ((0, ONE), (1, ONE)), ((0, HALF), (1, ONE), (0, HALF))
THREE = LEAD + ((2, ONE),)
STRAIGHT = (((0,), ONE), ((1,), ONE))
SIXTHS = (HALF, (2, 3), (5, 6), LESS)
BOTH_ENDS = ((1, 4), (1, 3), (5, 12), (-1, 2), (-1, 2), (5, 12), (1, 3), (1, 4))
NO_PARTS = STRANGE + NO_FRACTIONS + tuple((value,) for value in NO_FRACTIONS) + (
    (), [ONE], (ONE, 1), (ONE, None), ((2, 4),), (ONE, (2, 4)), (HALF, [1, 2]), ONE, HALF, ((ONE,),), (ONE, (True, 1)),
)
NO_ORDERS = STRANGE + (0, -1, 11, 10**399, -(10**399), (), (1,), (2, 1), "2", [2])


def sums_raise(parts, order):
    numbers = [Fraction(*part) for part in parts]
    return sum(numbers) == 1 and sum(number ** (order + 1) for number in numbers) == 0


def random_parts(source, many):
    return tuple(random_fraction(source) for _ in range(many))


class Examples(unittest.TestCase):
    def test_them(self):
        self.assertEqual(in_parts(LEAD, (HALF, HALF)), ((0, (1, 2)), (1, (1, 2)), (0, (1, 2)), (1, (1, 2))))
        self.assertIs(raises(SIXTHS, 2), True)
        self.assertIs(raises((HALF, HALF), 2), False)
        self.assertIs(raises_twice((HALF, HALF), 2), False)
        self.assertEqual(order_of(in_parts(LEAP, SIXTHS), 2), 3)
        self.assertIsNone(unraised_step(SIXTHS, 2, 2))
        self.assertEqual(order_of(unraised_step((HALF, HALF), 2, 2), 2), 2)


class StepsInParts(unittest.TestCase):
    def test_one_behind_the_other(self):
        source = fixed_source(111)
        for many in (1, 2, 5):
            step, parts = random_step(source, 3, 4), random_parts(source, many)
            told = ()
            for part in parts:
                told = joined(told, timed(step, part))
            self.assertEqual(in_parts(step, parts), told)
            self.assertEqual(in_parts(parts=parts, step=step), told)
            self.assertEqual(len(told), many * 4)

    def test_edges(self):
        self.assertEqual(in_parts((), SIXTHS), ())
        self.assertEqual(in_parts(LEAP, (ONE,)), LEAP)
        self.assertEqual(in_parts(((0, ONE), (0, HALF), (1, NIL)), (NIL,)), ((0, NIL), (0, NIL), (1, NIL)))
        self.assertEqual(in_parts(((2, HALF),), (HALF, HALF)), ((2, (1, 4)), (2, (1, 4))))
        self.assertEqual(in_parts(((0, WIDE),), (pair_of(1 / Fraction(*WIDE)),)), ((0, ONE),))
        self.assertEqual(len(in_parts(((0, WIDE), (1, WIDE)) * 30, (WIDE,) * 60)), 3600)


class PartsThatRaise(unittest.TestCase):
    def test_by_both_sums(self):
        source = fixed_source(112)
        parts = [random_parts(source, many) for many in (1, 2, 3, 4) for _ in range(10)]
        # Parts with the sum 1, too.
        parts += [some + (pair_of(1 - sum(Fraction(*part) for part in some)),) for some in parts]
        parts += [SIXTHS, SIXTHS[::-1], BOTH_ENDS, (ONE,), (NIL,), (NIL, NIL), (LESS,), (ONE, NIL), (ONE, LESS)]
        parts += [(LESS, ONE, ONE), (NIL, NIL) + SIXTHS]
        for some in parts:
            for order in range(1, 11):
                self.assertIs(raises(some, order), sums_raise(some, order))
                self.assertIs(raises(order=order, parts=some), sums_raise(some, order))

    def test_no_parts_raise_odd_orders(self):
        for parts in ((ONE,), (ONE, NIL), (ONE, ONE, LESS), SIXTHS, BOTH_ENDS, (HALF, HALF)):
            for order in (1, 3, 5, 7, 9):
                self.assertIs(raises(parts, order), False)

    def test_orders_above_the_last_length(self):
        # 3 ** 7 is 17 times 2 ** 7 and 11; n ** k times 1 to the power k is just that of n.
        for numbers, order in (
            ((-3,) + (2,) * 17 + (1,) * 11, 6), ((1,) * 128 + (-2,), 6), ((1,) * 512 + (-2,), 8), ((-2,) + (1,) * 2048, 10),
        ):
            parts = tuple(pair_of(Fraction(number, sum(numbers))) for number in numbers)
            self.assertEqual([other for other in range(1, 11) if raises(parts, other)], [order])
            self.assertIs(raises(parts[1:], order), False)
            self.assertIs(raises(parts + (ONE,), order), False)
            self.assertIs(raises(parts + (NIL,), order), True)

    def test_what_it_says_of_steps(self):
        source = fixed_source(113)
        for order in (1, 2, 3, 4):
            step = step_towards(STRAIGHT, order)
            for parts in (SIXTHS, BOTH_ENDS, (ONE,), (HALF, HALF), (ONE, NIL), random_parts(source, 2)):
                told = plain_order_and_miss(in_parts(step, parts), 2)[0]
                if order_of(step, 2) == order:
                    self.assertIs(told >= order + 1, raises(parts, order))

    def test_wide_parts(self):
        rest = pair_of(1 - Fraction(*WIDE))
        self.assertIs(raises((WIDE, rest), 10), False)
        self.assertIs(raises((WIDE, (-WIDE[0], WIDE[1])) + SIXTHS, 2), True)
        self.assertIs(raises((WIDE, (-WIDE[0], WIDE[1])) * 28 + SIXTHS, 2), True)
        self.assertIs(raises((WIDE, (-WIDE[0], WIDE[1])) * 28 + SIXTHS, 10), False)


class PartsThatRaiseTwice(unittest.TestCase):
    def test_by_both_sums(self):
        for parts in (BOTH_ENDS, (ONE,), (HALF, HALF), (NIL,), (ONE, LESS, ONE), (LESS, ONE, ONE, ONE, LESS)):
            for order in (2, 4, 6, 8, 10):
                self.assertIs(raises_twice(parts, order), sums_raise(parts, order))
                self.assertIs(raises_twice(order=order, parts=parts), sums_raise(parts, order))
        self.assertIs(raises_twice(BOTH_ENDS, 2), True)
        self.assertIs(raises_twice(BOTH_ENDS, 4), False)

    def test_what_it_says_of_symmetric_steps(self):
        step = in_parts(LEAP, BOTH_ENDS)
        self.assertIs(is_symmetric(step), True)
        self.assertEqual(order_of(step, 2), 4)
        three = in_parts(joined(timed(THREE, HALF), mirrored(timed(THREE, HALF))), BOTH_ENDS)
        self.assertEqual(order_of(three, 3), 4)


class UnraisedSteps(unittest.TestCase):
    def test_each_is_one(self):
        source = fixed_source(114)
        parts = [SIXTHS, BOTH_ENDS, (ONE,), (NIL,), (HALF, HALF), (ONE, NIL), (WIDE,), (LESS, ONE, ONE)]
        parts += [random_parts(source, many) for many in (1, 2, 3)]
        for some in parts:
            for letters, order in ((2, 1), (2, 2), (2, 3), (3, 1), (3, 2)):
                step = unraised_step(some, letters, order)
                self.assertEqual(unraised_step(order=order, letters=letters, parts=some), step)
                if sums_raise(some, order):
                    self.assertIsNone(step)
                    continue
                self.assertIs(is_step(step), True)
                self.assertEqual(order_of(step, letters), order)
                self.assertEqual(plain_order_and_miss(step, letters)[0], order)
                self.assertLessEqual(order_of(in_parts(step, some), letters), order)

    def test_none_for_parts_that_raise(self):
        for letters in (2, 3):
            self.assertIsNone(unraised_step(SIXTHS, letters, 2))
            self.assertIsNone(unraised_step((NIL,) + SIXTHS[::-1], letters, 2))
            self.assertIsNotNone(unraised_step(SIXTHS, letters, 1))


class Refusals(unittest.TestCase):
    def test_in_parts(self):
        right = {"step": LEAP, "parts": (HALF,)}
        check_refused(self, in_parts, right, "step", NO_STEPS, InvalidStep)
        check_refused(self, in_parts, right, "parts", NO_PARTS, InvalidParts)
        check_refused(self, in_parts, {"step": None, "parts": None}, "step", [7], InvalidStep)
        check_refused(self, in_parts, {"step": (), "parts": ()}, "parts", [()], InvalidParts)

    def test_raises(self):
        for function in (raises, raises_twice):
            right = {"parts": (HALF, HALF), "order": 2}
            check_refused(self, function, right, "parts", NO_PARTS, InvalidParts)
            check_refused(self, function, right, "order", NO_ORDERS, InvalidNumber)
            check_refused(self, function, {"parts": None, "order": None}, "parts", [()], InvalidParts)
        for order in (1, 3, 5, 7, 9):
            check_refused(self, raises_twice, {"parts": (ONE,), "order": 2}, "order", [order], InvalidNumber)
        not_from_both_ends = SIXTHS, (ONE, NIL), (HALF, (1, 3)), (NIL, NIL, ONE)
        check_refused(self, raises_twice, {"parts": None, "order": 2}, "parts", not_from_both_ends, InvalidParts)
        check_refused(self, raises_twice, {"parts": None, "order": 3}, "parts", not_from_both_ends, InvalidParts)
        check_refused(self, raises_twice, {"parts": None, "order": None}, "parts", not_from_both_ends, InvalidParts)

    def test_unraised_step(self):
        right = {"parts": (HALF,), "letters": 2, "order": 2}
        check_refused(self, unraised_step, right, "parts", NO_PARTS, InvalidParts)
        check_refused(self, unraised_step, right, "letters", NO_LETTERS, InvalidLetters)
        check_refused(self, unraised_step, right, "order", NO_ORDERS + (4, 10), InvalidNumber)
        right["letters"] = 3
        check_refused(self, unraised_step, right, "order", NO_ORDERS + (3, 4, 10), InvalidNumber)
        wrong = {"parts": None, "letters": None, "order": None}
        check_refused(self, unraised_step, wrong, "parts", [()], InvalidParts)
        check_refused(self, unraised_step, {**wrong, "parts": SIXTHS}, "letters", [4], InvalidLetters)


if __name__ == "__main__":
    unittest.main()
