"""Pieces back, lags and meanings: points 3 to 5, 18 and 19 and flowpieces/forwards.py."""

import unittest
from fractions import Fraction

from flowpieces.brackets import by_coordinates, least_words, nested
from flowpieces.errors import InvalidLetter, InvalidMeaning, InvalidNumber, InvalidStep, NotRight
from flowpieces.forwards import calmest_step, has_back, is_meaning, lag_of, least_lag, miss_with, order_with
from flowpieces.orders import change_followed, miss_of, order_of, step_following, step_towards
from flowpieces.steps import is_symmetric, joined, mirrored, series_of, short_form, timed, undoing, whole_of
from flowpieces.words import logarithm, number_at, plus, product, times_number
from plain import plain_order_and_miss, plain_series, plain_whole
from samples import (
    HALF,
    LESS,
    NIL,
    NO_LETTER,
    NO_STEPS,
    NO_SUMS,
    ONE,
    STRANGE,
    WIDE,
    check_refused,
    fixed_source,
    pair_of,
    random_number,
    random_step,
    with_each_place_changed,
)

LEAD, LEAP = ((0, ONE), (1, ONE)), ((0, HALF), (1, ONE), (0, HALF))
STRAIGHT = (((0,), ONE), ((1,), ONE))
SWAP = (((0, 1), ONE), ((1, 0), LESS))
PULL = (((1,), (2, 3)), ((0, 1, 1), (-1, 72)), ((1, 0, 1), (1, 36)), ((1, 1, 0), (-1, 72)))
THIRDS = ((1, (1, 6)), (0, HALF), (2, ONE), (0, HALF), (1, (1, 6)))
NO_MEANINGS = NO_SUMS + (
    (((), ONE),), (((), ONE),) + STRAIGHT, (((0, 1), ONE),), (((0, 1), ONE), ((1, 0), ONE)), (((2,), ONE),),
    STRAIGHT + (((2,), ONE),), (((0, 2), ONE), ((2, 0), LESS)), (((0,) * 7, ONE),), STRAIGHT + (((1, 0) * 6, ONE),),
    (((0,), ONE), ((0, 0), ONE)),
)
NO_MANY = STRANGE + (0, -1, 21, 10**399, -(10**399), (), (1,), (1, 1), "1", [1])


def all_least(degree):
    return [word for length in range(1, degree + 1) for word in least_words(2, length)]


def random_meaning(source, degree):
    return by_coordinates(tuple((word, random_number(source)) for word in all_least(degree) if source.random() < 0.7))


def right_step(source, many):
    """A step of the order 2 at least without a piece back with the letter 0, of which it has so many pieces."""
    leads = [Fraction(source.randint(1, 9)) for _ in range(many)]
    leads = [lead / sum(leads) for lead in leads]
    levels = [Fraction(source.randint(-9, 9), 9) for _ in range(many)]
    # The integral of the levels has to be 1 / 2.
    at = source.randrange(many)
    rest = sum(lead * level for lead, level in zip(leads, levels)) - leads[at] * levels[at]
    levels[at] = (Fraction(1, 2) - rest) / leads[at]
    step, reached = [], Fraction(0)
    for lead, level in zip(leads, levels):
        step += [(1, pair_of(level - reached)), (0, pair_of(lead))]
        reached = level
    return tuple(step) + ((1, pair_of(1 - reached)),)


def exchanged(step):
    return tuple((1 - letter, number) for letter, number in step)


def lag_by_integral(step, letter):
    """Half the integral of the square of what stands behind so much of the letter, less this."""
    total, passed, behind = Fraction(0), Fraction(0), Fraction(0)
    for other, (upper, lower) in step:
        number = Fraction(upper, lower)
        if other == letter:
            total += ((passed + number - behind) ** 3 - (passed - behind) ** 3) / 3
            passed += number
        else:
            behind += number
    return total / 2


class Examples(unittest.TestCase):
    def test_lags(self):
        self.assertIs(has_back(LEAP, 0), False)
        self.assertIs(has_back(joined(LEAP, ((1, LESS),)), 1), True)
        self.assertEqual(lag_of(LEAP), (1, 24))
        self.assertEqual(least_lag(1), (1, 24))
        self.assertEqual(least_lag(2), (1, 96))
        self.assertEqual(lag_of(calmest_step(2, 0)), (1, 96))
        self.assertEqual(calmest_step(1, 1), LEAP)
        told = ((1, (1, 4)), (0, (1, 2)), (1, (1, 2)), (0, (1, 2)), (1, (1, 4)))
        self.assertEqual(calmest_step(2, 0), told)
        with self.assertRaises(NotRight):
            lag_of(LEAD)

    def test_meanings(self):
        self.assertIs(is_meaning(PULL), True)
        self.assertIs(is_meaning((((0, 1), ONE),)), False)
        self.assertEqual(order_with(THIRDS, PULL), 4)
        self.assertEqual(miss_with(((0, ONE), (2, ONE)), (((1,), ONE),)), miss_of(LEAD, 2))


class PiecesBack(unittest.TestCase):
    def test_by_the_short_form(self):
        source = fixed_source(91)
        for _ in range(60):
            step = tuple((source.randrange(3), source.choice((ONE, LESS, NIL, HALF, (-1, 3)))) for _ in range(7))
            for letter in (0, 1):
                told = any(other == letter and number[0] < 0 for other, number in short_form(step))
                self.assertIs(has_back(step, letter), told)
                self.assertIs(has_back(letter=letter, step=step), told)

    def test_edges(self):
        for step, told in (
            ((), (False, False)), (((0, NIL),), (False, False)), (((0, LESS),), (True, False)),
            (((0, LESS), (0, HALF)), (True, False)), (((0, LESS), (0, ONE)), (False, False)),
            (((0, LESS), (1, NIL), (0, (2, 1))), (False, False)), (((2, LESS),), (False, False)),
            (((0, LESS), (2, NIL), (1, LESS)), (True, True)), (((0, ONE), (1, ONE), (0, LESS)), (True, False)),
            (((0, WIDE), (0, pair_of(-Fraction(*WIDE) - 1))), (True, False)),
        ):
            self.assertEqual((has_back(step, 0), has_back(step, 1)), told)

    def test_steps_of_a_greater_order_go_back_with_each_letter(self):
        steps = [step_following(STRAIGHT, 3), step_following(STRAIGHT, 4), step_towards(STRAIGHT, 5)]
        for step in steps:
            self.assertGreaterEqual(order_of(step, 2), 3)
            self.assertIs(has_back(step, 0), True)
            self.assertIs(has_back(step, 1), True)
        three = step_following(STRAIGHT + (((2,), ONE),), 3)
        self.assertGreaterEqual(order_of(three, 3), 3)
        self.assertIs(has_back(three, 0) and has_back(three, 1), True)

    def test_sixty_wide_pieces(self):
        step = tuple((at % 2, WIDE) for at in range(60))
        self.assertIs(has_back(step, 0) or has_back(step, 1), False)
        self.assertIs(has_back(undoing(step), 0) and has_back(undoing(step), 1), True)
        self.assertIs(has_back(step[:59] + ((1, (-1, 10**399)),), 1), True)


class Lags(unittest.TestCase):
    def test_by_the_integral(self):
        source = fixed_source(92)
        for many in (1, 2, 3, 5):
            for _ in range(8):
                step = right_step(source, many)
                lag = lag_of(step)
                self.assertEqual(lag_of(step=step), lag)
                self.assertEqual(lag, pair_of(lag_by_integral(short_form(step), 0)))
                miss = miss_of(step, 2)
                told = Fraction(*number_at(miss, (0, 0, 1))) + Fraction(*number_at(miss, (0, 1, 1)))
                self.assertEqual(lag, pair_of(told))
                self.assertIs(has_back(step, 0), False)
                # The short form has as many pieces of the letter, or fewer.
                pieces = sum(letter == 0 for letter, _ in short_form(step))
                self.assertGreater(lag[0], 0)
                self.assertGreaterEqual(Fraction(*lag), Fraction(*least_lag(pieces)))
                if short_form(step) != calmest_step(pieces, 0):
                    self.assertGreater(Fraction(*lag), Fraction(*least_lag(pieces)))

    def test_by_the_other_letter(self):
        source = fixed_source(93)
        for many in (1, 2, 3):
            step = exchanged(right_step(source, many))
            self.assertIs(has_back(step, 1), False)
            self.assertEqual(order_of(step, 2), 2)
            self.assertEqual(lag_of(step), pair_of(lag_by_integral(short_form(step), 1)))

    def test_steps_of_a_greater_order_have_the_lag_nought(self):
        for order in (3, 4, 6):
            step = step_towards(STRAIGHT, order)
            self.assertEqual(order_of(step, 2), order)
            self.assertEqual(lag_of(step), (0, 1))

    def test_steps_of_lower_orders(self):
        for step in ((), ((0, NIL),), LEAD, ((0, ONE),), ((0, HALF), (1, HALF), (0, HALF)), mirrored(LEAD)):
            with self.assertRaises(NotRight):
                lag_of(step)
            with self.assertRaises(NotRight):
                lag_of(step=step)

    def test_pieces_of_nought_and_neighbours(self):
        step = ((1, NIL), (0, (1, 4)), (0, (1, 4)), (1, (5, 1)), (1, (-4, 1)), (0, (3, 2)), (1, NIL), (0, LESS))
        self.assertEqual(lag_of(step), lag_of(LEAP))

    def test_sixty_wide_pieces(self):
        source = fixed_source(94)
        half = [[pair_of(Fraction(source.randrange(10**399), source.randrange(1, 10**399))) for _ in range(15)]
                for _ in range(2)]
        totals = [2 * sum(Fraction(*number) for number in numbers) for numbers in half]
        front = tuple((letter, pair_of(Fraction(*half[letter][at]) / totals[letter]))
                      for at in range(15) for letter in range(2))
        step = joined(front, mirrored(front))
        self.assertEqual(len(step), 60)
        self.assertTrue(lag_of(step) == pair_of(lag_by_integral(short_form(step), 0)))


class CalmestSteps(unittest.TestCase):
    def test_all_of_them(self):
        for many in range(1, 21):
            self.assertEqual(least_lag(many), (1, 24 * many**2))
            self.assertEqual(least_lag(many=many), least_lag(many))
            for letter in (0, 1):
                step = calmest_step(many, letter)
                self.assertEqual(calmest_step(letter=letter, many=many), step)
                self.assertEqual(short_form(step), step)
                self.assertEqual([number for one, number in step if one == letter], [(1, many)] * many)
                self.assertEqual([one for one, _ in step], [1 - letter] + [letter, 1 - letter] * many)
                self.assertEqual(step[0][1], (1, 2 * many))
                self.assertIs(is_symmetric(step), True)
                self.assertIs(has_back(step, 0) or has_back(step, 1), False)
                self.assertEqual(order_of(step, 2), 2)
                self.assertEqual(lag_of(step), least_lag(many))

    def test_no_other_step_does(self):
        source = fixed_source(95)
        calmest = calmest_step(3, 0)
        for _ in range(10):
            # The same integral of the levels, but other levels.
            change = Fraction(*random_number(source)) / 50
            changed = list(calmest)
            for at, factor in ((0, 1), (2, -2), (4, 1)):
                changed[at] = (1, pair_of(Fraction(*calmest[at][1]) + factor * change))
            self.assertEqual(order_of(tuple(changed), 2), 2)
            self.assertGreater(Fraction(*lag_of(tuple(changed))), Fraction(*least_lag(3)))


class Meanings(unittest.TestCase):
    def test_what_they_are(self):
        source = fixed_source(96)
        for degree in range(1, 7):
            self.assertIs(is_meaning(random_meaning(source, degree)), True)
        for value in ((), STRAIGHT, SWAP, (((1,), WIDE),), nested((0, 1, 0, 1, 1)), nested((0, 0, 0, 0, 0, 1))):
            self.assertIs(is_meaning(value), True)
            self.assertIs(is_meaning(value=value), True)
        self.assertIs(is_meaning(change_followed(((0, WIDE), (1, HALF)), 6)), True)

    def test_what_they_are_not(self):
        for value in NO_MEANINGS:
            self.assertIs(is_meaning(value), False)
        for strange in STRANGE:
            for value in with_each_place_changed(PULL, strange):
                self.assertIs(is_meaning(value), False)


class OrdersWithMeanings(unittest.TestCase):
    def check_with(self, step, meaning):
        order, miss = plain_order_and_miss(step, 2, {2: meaning})
        self.assertEqual(order_with(step, meaning), order)
        self.assertEqual(order_with(meaning=meaning, step=step), order)
        self.assertEqual(miss_with(step, meaning), miss)
        self.assertEqual(miss_with(meaning=meaning, step=step), miss)
        return order

    def test_by_all_words(self):
        source = fixed_source(97)
        for degree in (1, 2, 3, 6):
            for pieces in (1, 3, 4):
                self.check_with(random_step(source, 3, pieces), random_meaning(source, degree))

    def test_steps_that_are_made_right(self):
        # With the meaning that is missing behind a step, the step and the letter 2 have each order.
        source = fixed_source(98)
        for length in range(1, 7):
            step = random_step(source, 2, 3)
            missing = logarithm(product(series_of(undoing(step), 6), whole_of(2, 6), 6), length)
            for numbers in ((ONE,), (HALF, NIL, HALF), ((3, 1), (-2, 1))):
                behind = tuple((2, number) for number in numbers)
                told = self.check_with(step + behind, missing)
                self.assertGreaterEqual(told, length)

    def test_long_brackets_between_the_pieces_of_right_steps(self):
        source = fixed_source(100)
        for order in (1, 2, 3, 4):
            step = step_towards(STRAIGHT, order)
            for word in all_least(6):
                if len(word) not in (order, order + 1, 6) or len(word) == 1:
                    continue
                meaning = times_number(nested(word), source.choice(((1, 5), (-3, 7), (2, 121))))
                at = source.randint(0, len(step))
                middle = ((2, random_number(source)),) + step[at:] + ((2, (1, 13)),)
                self.assertEqual(self.check_with(step[:at] + middle, meaning), min(order, len(word) - 1))

    def test_pieces_and_meanings_with_unlike_denominators(self):
        sevenths, elevenths = ((1, (1, 7)), (0, ONE), (1, (6, 7))), ((0, (1, 11)), (1, ONE), (0, (10, 11)))
        for step in (sevenths, elevenths):
            for word in ((0, 1), (0, 0, 1), (0, 1, 1)):
                meaning = times_number(nested(word), (1, 5))
                self.assertEqual(self.check_with(step + ((2, (1, 3)),), meaning), 1)
                self.assertEqual(self.check_with(((2, (1, 3)),) + step, meaning), 1)

    def test_the_last_length_is_six(self):
        for step, meaning in ((((2, ONE),), STRAIGHT), (((2, HALF), (0, NIL), (2, HALF)), STRAIGHT)):
            self.assertEqual(self.check_with(step, meaning), 6)
            self.assertIsNone(miss_with(step, meaning))

    def test_steps_without_the_letter_two(self):
        for step in ((), LEAD, LEAP, calmest_step(4, 1), step_towards(STRAIGHT, 3)):
            for meaning in ((), PULL, STRAIGHT):
                self.assertEqual(order_with(step, meaning), order_of(step, 2))
                self.assertEqual(miss_with(step, meaning), miss_of(step, 2))

    def test_letters_and_nought_as_meanings(self):
        source = fixed_source(99)
        for _ in range(5):
            step = random_step(source, 3, 5)
            for letter in (0, 1):
                other = tuple((letter if one == 2 else one, number) for one, number in step)
                self.assertEqual(order_with(step, (((letter,), ONE),)), order_of(other, 2))
                self.assertEqual(miss_with(step, (((letter,), ONE),)), miss_of(other, 2))
            rest = tuple(piece for piece in step if piece[0] != 2)
            self.assertEqual(miss_with(step, ()), miss_of(rest, 2))
        self.assertEqual(order_with((), PULL), 0)
        self.assertEqual(miss_with(((2, WIDE),), ()), (((0,), LESS), ((1,), LESS)))

    def test_without_a_piece_back(self):
        self.assertIs(has_back(THIRDS, 0) or has_back(THIRDS, 1), False)
        self.assertEqual(self.check_with(THIRDS, PULL), 4)
        # Without the bracket it is of the order 2, with 13 / 72 instead of 1 / 6 at (0, 1, 1).
        plain = (((1,), (2, 3)),)
        self.assertEqual(self.check_with(THIRDS, plain), 2)
        self.assertEqual(number_at(miss_with(THIRDS, plain), (0, 1, 1)), pair_of(Fraction(13, 72) - Fraction(1, 6)))

    def test_brackets_as_meanings(self):
        # Joined with the bracket of both times - 1 / 2, lead is right at the words of two letters.
        step = joined(LEAD, ((2, (-1, 2)),))
        self.assertEqual(self.check_with(step, SWAP), 2)
        self.assertEqual(self.check_with(timed(step, NIL), SWAP), 0)
        self.assertEqual(plain_series(step, 2, {2: SWAP}), plain_whole(2, 2))

    def test_wide_numbers(self):
        step = ((0, WIDE), (2, pair_of(1 / Fraction(*WIDE))), (0, pair_of(1 - Fraction(*WIDE))), (1, HALF))
        meaning = plus((((1,), pair_of(Fraction(*WIDE) / 2)),), times_number(nested((0, 0, 1)), WIDE))
        order, miss = plain_order_and_miss(step, 2, {2: meaning})
        self.assertEqual(order, 1)
        self.assertEqual(order_with(step, meaning), 1)
        self.assertTrue(miss_with(step, meaning) == miss)
        many = tuple((at % 3, WIDE) for at in range(60))
        self.assertEqual(order_with(many, meaning), 0)


class Refusals(unittest.TestCase):
    def test_has_back(self):
        check_refused(self, has_back, {"step": LEAP, "letter": 0}, "step", NO_STEPS, InvalidStep)
        check_refused(self, has_back, {"step": LEAP, "letter": 0}, "letter", NO_LETTER, InvalidLetter)
        check_refused(self, has_back, {"step": None, "letter": None}, "step", [7], InvalidStep)

    def test_lag_of(self):
        with_two = ((2, ONE),), ((2, NIL),) + LEAP, LEAP + ((2, ONE), (2, LESS)), ((0, ONE), (2, NIL))
        check_refused(self, lag_of, {"step": LEAP}, "step", NO_STEPS + with_two, InvalidStep)

    def test_calmest_steps(self):
        check_refused(self, least_lag, {"many": 1}, "many", NO_MANY, InvalidNumber)
        check_refused(self, calmest_step, {"many": 1, "letter": 0}, "many", NO_MANY, InvalidNumber)
        check_refused(self, calmest_step, {"many": 1, "letter": 0}, "letter", NO_LETTER, InvalidLetter)
        check_refused(self, calmest_step, {"many": None, "letter": None}, "many", [0], InvalidNumber)

    def test_meanings(self):
        for function in (order_with, miss_with):
            right = {"step": THIRDS, "meaning": PULL}
            check_refused(self, function, right, "step", NO_STEPS, InvalidStep)
            check_refused(self, function, right, "meaning", NO_MEANINGS, InvalidMeaning)
            check_refused(self, function, {"step": (), "meaning": None}, "meaning", NO_MEANINGS, InvalidMeaning)
            check_refused(self, function, {"step": None, "meaning": None}, "step", [7], InvalidStep)


if __name__ == "__main__":
    unittest.main()
