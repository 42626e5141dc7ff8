"""Orders, misses and steps that follow a change: points 3 to 5, 12, 13, 16 and 17 and flowpieces/orders.py."""

import unittest
from fractions import Fraction

from flowpieces.brackets import by_coordinates, is_bracket_sum, least_words, nested
from flowpieces.errors import InvalidLength, InvalidLetters, InvalidStep, InvalidSum, InvalidWord, NotBrackets, NotLeast
from flowpieces.orders import change_followed, miss_of, missing_step, order_of, step_following, step_towards
from flowpieces.steps import is_step, joined, mirrored, series_of, timed, undoing, whole_of
from flowpieces.tables import flow_table, read_in, shifts, step_table
from flowpieces.words import exponential, logarithm, number_at, part_of, plus, times_number
from plain import all_words, plain_order_and_miss
from samples import (
    HALF,
    LESS,
    NIL,
    NO_LENGTHS,
    NO_LETTERS,
    NO_STEPS,
    NO_SUMS,
    NO_WORDS,
    ONE,
    STRANGE,
    WIDE,
    check_refused,
    fixed_source,
    pair_of,
    random_fraction,
    random_number,
    random_step,
    random_table,
    table_as_numbers,
)

LEAD, LEAP = ((0, ONE), (1, ONE)), ((0, HALF), (1, ONE), (0, HALF))
STRAIGHT = (((0,), ONE), ((1,), ONE))
STRAIGHT_THREE = STRAIGHT + (((2,), ONE),)
NO_BRACKETS = (((0, 1), ONE),)
# Steps of all orders that are told.
BY_ORDER = {
    2: {order: step_towards(STRAIGHT, order) for order in range(1, 7)},
    3: {order: step_towards(STRAIGHT_THREE, order) for order in range(1, 5)},
}


def scaled_to_one(step, letters):
    """The step with each letter's fractions times a number, so that they add up to 1."""
    totals = [sum(Fraction(*number) for letter, number in step if letter == one) for one in range(letters)]
    return tuple((letter, pair_of(Fraction(*number) / totals[letter])) for letter, number in step)


def random_right_step(source, letters, pieces):
    """A step of the order 1 at least."""
    while True:
        step = tuple((at % letters, random_number(source)) for at in range(pieces))
        try:
            return scaled_to_one(step, letters)
        except ZeroDivisionError:
            pass


def all_least(letters, most):
    return [word for length in range(1, most + 1) for word in least_words(letters, length)]


def random_bracket_sum(source, letters, degree):
    words = [word for word in all_least(letters, degree) if source.random() < 0.6]
    return by_coordinates(tuple((word, random_number(source)) for word in words))


class Examples(unittest.TestCase):
    def test_orders_and_misses(self):
        self.assertEqual(order_of(LEAD, 2), 1)
        self.assertEqual(order_of(LEAP, 2), 2)
        self.assertEqual(order_of(LEAP, 3), 0)
        self.assertEqual(miss_of(LEAD, 2), (((0, 1), (1, 2)), ((1, 0), (-1, 2))))
        told = (((0, 0, 1), (-1, 24)), ((0, 1, 0), (1, 12)), ((0, 1, 1), (1, 12)), ((1, 0, 0), (-1, 24)),
                ((1, 0, 1), (-1, 6)), ((1, 1, 0), (1, 12)))
        self.assertEqual(miss_of(LEAP, 2), told)

    def test_changes(self):
        told = (((0,), (1, 1)), ((1,), (1, 1)), ((0, 1), (1, 2)), ((1, 0), (-1, 2)))
        self.assertEqual(change_followed(LEAD, 2), told)
        self.assertGreaterEqual(order_of(step_following(STRAIGHT, 3), 2), 3)
        self.assertEqual(change_followed(step_following(STRAIGHT, 3), 3), STRAIGHT)
        self.assertEqual(order_of(missing_step((0, 1), 2), 2), 1)
        with self.assertRaises(NotBrackets):
            step_following((((0, 1), ONE),), 2)


class Orders(unittest.TestCase):
    def check_order(self, step, letters):
        order, miss = plain_order_and_miss(step, letters)
        self.assertEqual(order_of(step, letters), order)
        self.assertEqual(order_of(letters=letters, step=step), order)
        self.assertEqual(miss_of(step, letters), miss)
        self.assertEqual(miss_of(letters=letters, step=step), miss)
        return order

    def test_by_all_words(self):
        source = fixed_source(71)
        found = set()
        for letters in (2, 3):
            for pieces in (letters, 4, 5):
                step = random_right_step(source, letters, pieces)
                symmetric = timed(step + mirrored(step), HALF)
                for one in (step, symmetric, random_step(source, letters, pieces), step + ((1, NIL), (0, NIL))):
                    found.add(self.check_order(one, letters))
        self.assertLessEqual({0, 1, 2}, found)

    def test_all_orders_that_are_told(self):
        for order in (1, 2, 3):
            self.assertEqual(self.check_order(BY_ORDER[2][order], 2), order)
            self.assertEqual(self.check_order(BY_ORDER[3][order], 3), order)
        for letters, last in ((2, 6), (3, 4)):
            for order in range(1, last + 1):
                self.assertEqual(order_of(BY_ORDER[letters][order], letters), order)
                miss = miss_of(BY_ORDER[letters][order], letters)
                self.assertIs(miss is None, order == last)
                if order < last:
                    self.assertEqual({len(word) for word, _ in miss}, {order + 1})

    def test_edges(self):
        for step in ((), ((0, NIL),), ((0, ONE),), ((1, ONE),), ((0, ONE), (1, HALF)), ((0, ONE), (1, ONE), (0, LESS))):
            self.assertEqual(self.check_order(step, 2), 0)
            self.assertEqual(self.check_order(step, 3), 0)
        self.assertEqual(miss_of((), 2), (((0,), LESS), ((1,), LESS)))
        self.assertEqual(miss_of((), 3), (((0,), LESS), ((1,), LESS), ((2,), LESS)))
        self.assertEqual(self.check_order(((1, ONE), (0, ONE)), 2), 1)
        self.assertEqual(self.check_order(((2, ONE), (0, ONE), (1, ONE)), 3), 1)
        self.assertEqual(self.check_order(((2, NIL), (0, ONE), (1, ONE)), 3), 0)
        self.assertEqual(self.check_order(((0, HALF), (0, HALF), (2, HALF), (1, ONE), (2, HALF)), 3), 1)

    def test_series_up_to_the_order_is_the_whole(self):
        for letters, last in ((2, 6), (3, 4)):
            for order, step in BY_ORDER[letters].items():
                self.assertEqual(series_of(step, order), whole_of(letters, order))
                if order < last:
                    gap = plus(series_of(step, order + 1), times_number(whole_of(letters, order + 1), LESS))
                    self.assertEqual(gap, miss_of(step, letters))
                    self.assertNotEqual(gap, ())

    def test_misses_at_shifts(self):
        source = fixed_source(72)
        steps = [(LEAD, 2), (LEAP, 2), ((), 3), (BY_ORDER[2][3], 2), (BY_ORDER[3][2], 3)]
        steps.append((random_right_step(source, 3, 5), 3))
        for step, letters in steps:
            miss, order = miss_of(step, letters), order_of(step, letters)
            for word, number in miss:
                tables = shifts(word, letters)
                for length in (ONE, HALF, (-2, 3)):
                    there = table_as_numbers(step_table(step, tables, length))
                    flow = table_as_numbers(flow_table(tables, length))
                    gap = Fraction(*number) * Fraction(*length) ** (order + 1)
                    for row, column in ((row, column) for row in range(order + 2) for column in range(order + 2)):
                        told = gap if (row, column) == (0, order + 1) else 0
                        self.assertEqual(there[row][column] - flow[row][column], told)

    def test_misses_in_any_tables(self):
        # Products of more than four closed tables of five rows are nought.
        source = fixed_source(73)
        step = BY_ORDER[2][3]
        tables = tuple(random_table(source, 5, True) for _ in range(2))
        there = table_as_numbers(step_table(step, tables, HALF))
        flow = table_as_numbers(flow_table(tables, HALF))
        told = table_as_numbers(read_in(miss_of(step, 2), tables))
        for row, others in enumerate(told):
            for column, number in enumerate(others):
                self.assertEqual(there[row][column] - flow[row][column], number / 16)

    def test_symmetric_steps_have_even_orders(self):
        source = fixed_source(74)
        for letters, last in ((2, 6), (3, 4)):
            for order, step in BY_ORDER[letters].items():
                symmetric = timed(joined(step, mirrored(step)), HALF)
                self.assertIn(order_of(symmetric, letters), (2, 4, 6))
            for pieces in (3, 4, 5):
                step = random_right_step(source, letters, pieces)
                told = order_of(timed(step + mirrored(step), HALF), letters)
                self.assertTrue(told % 2 == 0 or told == last)

    def test_by_the_numbers_at_least_words(self):
        source = fixed_source(75)
        for letters, last in ((2, 6), (3, 4)):
            steps = list(BY_ORDER[letters].values())
            steps += [random_right_step(source, letters, pieces) for pieces in (3, 4, 5)]
            for step in steps:
                series, whole, order = series_of(step, last), whole_of(letters, last), order_of(step, letters)
                wrong = [word for word in all_least(letters, last) if number_at(series, word) != number_at(whole, word)]
                self.assertEqual(order, min([len(word) for word in wrong], default=last + 1) - 1)

    def test_sixty_wide_pieces(self):
        source = fixed_source(76)
        wide = [(at % 2, pair_of(Fraction(source.randrange(10**399), source.randrange(1, 10**399)))) for at in range(59)]
        step = scaled_to_one(wide, 2)
        self.assertEqual(order_of(step, 2), 1)
        # By hand: the numbers at (0, 1) and (1, 0) are 1 together.
        at_zero_one = sum(Fraction(*number) * sum(Fraction(*before) for letter, before in step[:at] if letter == 0)
                          for at, (one, number) in enumerate(step) if one == 1)
        gap = at_zero_one - Fraction(1, 2)
        self.assertTrue(miss_of(step, 2) == (((0, 1), pair_of(gap)), ((1, 0), pair_of(-gap))))
        half = scaled_to_one(wide[:30], 2)
        symmetric = timed(joined(half, mirrored(half)), HALF)
        self.assertEqual(order_of(symmetric, 2), 2)
        self.assertTrue(is_bracket_sum(miss_of(symmetric, 2)))
        self.assertEqual(order_of(tuple(wide), 2), 0)
        self.assertEqual(order_of(joined(tuple(wide[:30]), undoing(tuple(wide[:30]))), 2), 0)


class Changes(unittest.TestCase):
    def test_logarithms(self):
        source = fixed_source(77)
        for letters, most in ((2, 6), (3, 4)):
            for length in range(1, most + 1):
                step = random_step(source, letters, 5)
                told = change_followed(step, length)
                self.assertEqual(told, logarithm(series_of(step, length), length))
                self.assertEqual(change_followed(length=length, step=step), told)
                self.assertEqual(exponential(told, length), series_of(step, length))
                self.assertIs(is_bracket_sum(told), True)

    def test_edges(self):
        for length in (1, 6):
            for step in ((), ((0, NIL),), ((0, WIDE), (0, LESS), (0, ONE), (0, pair_of(-Fraction(*WIDE))))):
                self.assertEqual(change_followed(step, length), ())
            self.assertEqual(change_followed(((1, WIDE), (0, NIL)), length), (((1,), WIDE),))
        self.assertEqual(change_followed(((2, HALF), (2, HALF)), 4), (((2,), ONE),))
        self.assertEqual(change_followed(((0, ONE), (2, ONE)), 1), (((0,), ONE), ((2,), ONE)))
        # Baker, Campbell, Hausdorff: [0, 1] / 2, then [0, [0, 1]] / 12 and [[0, 1], 1] / 12.
        third = part_of(change_followed(LEAD, 3), 3)
        self.assertEqual(third, times_number(plus(nested((0, 0, 1)), nested((0, 1, 1))), (1, 12)))

    def test_flows_of_the_change(self):
        # Closed tables of five rows leave nothing beyond the length 4.
        source = fixed_source(78)
        for letters in (2, 3):
            step, number = random_step(source, letters, 5), random_fraction(source)
            tables = tuple(random_table(source, 5, True) for _ in range(letters))
            times = tuple((word, pair_of(Fraction(*at) * Fraction(*number) ** len(word)))
                          for word, at in change_followed(step, 4) if number != NIL)
            led = read_in(times, tables)
            self.assertEqual(step_table(step, tables, number), flow_table((led, ((NIL,) * 5,) * 5), ONE))

    def test_symmetric_steps_have_odd_parts_alone(self):
        source = fixed_source(79)
        step = random_step(source, 2, 5)
        change = change_followed(step + mirrored(step), 6)
        self.assertEqual([length for length in range(7) if part_of(change, length)], [1, 3, 5])

    def test_wide_pieces(self):
        source = fixed_source(80)
        step = tuple((at % 3, pair_of(Fraction(source.randrange(10**399), source.randrange(1, 10**399))))
                     for at in range(60))
        change = change_followed(step, 3)
        self.assertTrue(is_bracket_sum(change))
        self.assertTrue(exponential(change, 2) == series_of(step, 2))


class Following(unittest.TestCase):
    def check_following(self, terms, length):
        step = step_following(terms, length)
        self.assertTrue(is_step(step))
        told = tuple(pair for pair in terms if len(pair[0]) <= length)
        self.assertEqual(change_followed(step, length), told)
        self.assertEqual(step_following(length=length, terms=terms), step)

    def test_any_sums_of_brackets(self):
        source = fixed_source(81)
        for letters, most in ((2, 4), (3, 3)):
            for length in range(1, most + 1):
                for _ in range(4):
                    self.check_following(random_bracket_sum(source, letters, most), length)

    def test_each_nested_bracket(self):
        for letters, most in ((2, 4), (3, 3)):
            for word in all_least(letters, most):
                self.check_following(nested(word), len(word))
                self.check_following(times_number(nested(word), (-5, 7)), most)

    def test_edges(self):
        for length in range(1, 5):
            self.check_following((), length)
            self.check_following((((1,), WIDE),), length)
            self.check_following(STRAIGHT, length)
        for length in range(1, 4):
            self.check_following((((2,), LESS),), length)
            self.check_following(STRAIGHT_THREE, length)

    def test_longer_words_do_not_count(self):
        self.check_following(STRAIGHT + NO_BRACKETS, 1)
        self.check_following(plus(nested((0, 1)), (((0, 0, 0), ONE), ((0,) * 12, ONE))), 2)
        self.check_following((((2, 0), ONE),), 1)
        self.check_following((((0, 1) * 6, ONE),), 4)

    def test_no_sums_of_brackets(self):
        unit = (((), ONE),)
        for terms, length in (
            (NO_BRACKETS, 2), (NO_BRACKETS, 4), (unit, 1), (unit + STRAIGHT, 3), (plus(STRAIGHT, NO_BRACKETS), 2),
            (plus(nested((0, 1)), (((0, 0, 0, 0), ONE),)), 4), ((((0, 1), ONE), ((1, 0), ONE)), 3),
            ((((2, 2), ONE),), 2), (plus(nested((0, 1, 2)), (((1, 0, 2), ONE),)), 3),
        ):
            with self.assertRaises(NotBrackets):
                step_following(terms, length)
            with self.assertRaises(NotBrackets):
                step_following(length=length, terms=terms)

    def test_wide_numbers(self):
        source = fixed_source(82)
        for letters, most in ((2, 4), (3, 3)):
            told = tuple((word, pair_of(Fraction(source.randrange(10**399), source.randrange(1, 10**399))))
                         for word in all_least(letters, most))
            terms = by_coordinates(told)
            self.assertTrue(change_followed(step_following(terms, most), most) == terms)

    def test_greater_orders_than_two(self):
        for length in (3, 4):
            self.assertEqual(order_of(step_following(STRAIGHT, length), 2), length)
        self.assertEqual(order_of(step_following(STRAIGHT_THREE, 3), 3), 3)


class Missing(unittest.TestCase):
    def test_each_least_word(self):
        for letters, most in ((2, 4), (3, 3)):
            for word in all_least(letters, most):
                step = missing_step(word, letters)
                self.assertEqual(missing_step(letters=letters, word=word), step)
                self.assertTrue(is_step(step))
                series, whole = series_of(step, len(word)), whole_of(letters, len(word))
                for other in all_least(letters, len(word)):
                    self.assertIs(number_at(series, other) == number_at(whole, other), other != word)
                self.assertEqual(order_of(step, letters), len(word) - 1)

    def test_no_least_words(self):
        for letters, most in ((2, 4), (3, 3)):
            for word in all_words(letters, most):
                if word not in all_least(letters, most):
                    with self.assertRaises(NotLeast):
                        missing_step(word, letters)


class Refusals(unittest.TestCase):
    def test_steps_and_letters(self):
        for function in (order_of, miss_of):
            right = {"step": LEAP, "letters": 2}
            check_refused(self, function, right, "step", NO_STEPS, InvalidStep)
            check_refused(self, function, right, "letters", NO_LETTERS, InvalidLetters)
            with_two = [((2, ONE),), ((0, ONE), (2, NIL)), ((2, ONE), (2, LESS), (1, ONE))]
            check_refused(self, function, right, "step", with_two, InvalidStep)
            for step in with_two:
                self.assertEqual(order_of(step, 3), 0)
                check_refused(self, function, {"step": step, "letters": 3}, "letters", NO_LETTERS, InvalidLetters)
            check_refused(self, function, {"step": None, "letters": None}, "step", [7], InvalidStep)

    def test_change_followed(self):
        check_refused(self, change_followed, {"step": LEAP, "length": 2}, "step", NO_STEPS, InvalidStep)
        check_refused(self, change_followed, {"step": LEAP, "length": 2}, "length", NO_LENGTHS, InvalidLength)
        for step in (((2, ONE),), ((0, ONE), (2, NIL))):
            change_followed(step, 4)
            check_refused(self, change_followed, {"step": step, "length": 2}, "length", [5, 6], InvalidLength)
        check_refused(self, change_followed, {"step": None, "length": None}, "step", [7], InvalidStep)

    def test_step_following(self):
        wrong = NO_LENGTHS + (5, 6)
        for terms in (STRAIGHT, (), NO_BRACKETS, (((), ONE),), (((0,), (2, 1)),)):
            right = {"terms": terms, "length": 2}
            check_refused(self, step_following, right, "terms", NO_SUMS, InvalidSum)
            check_refused(self, step_following, right, "length", wrong, InvalidLength)
        for terms in ((((2,), ONE),), STRAIGHT + (((0, 1, 0, 1, 0, 2), ONE),), (((2, 2), ONE),)):
            right = {"terms": terms, "length": 2}
            check_refused(self, step_following, right, "length", wrong + (4,), InvalidLength)
        check_refused(self, step_following, {"terms": None, "length": None}, "terms", [7], InvalidSum)

    def test_missing_step(self):
        right = {"word": (0, 1), "letters": 2}
        long = [(0, 0, 0, 0, 1), (1,) * 5, (0,) * 12]
        check_refused(self, missing_step, right, "word", list(NO_WORDS) + long + [(2,), (0, 2), (2, 0)], InvalidWord)
        check_refused(self, missing_step, right, "letters", NO_LETTERS, InvalidLetters)
        right = {"word": (0, 1), "letters": 3}
        long = [(0, 0, 0, 1), (2,) * 4, (1, 0, 0, 0), (0,) * 12]
        check_refused(self, missing_step, right, "word", list(NO_WORDS) + long, InvalidWord)
        # What is no word is told ahead of the letters, a word that is not let behind them, least words last.
        check_refused(self, missing_step, {"word": (0, 3), "letters": None}, "word", STRANGE, InvalidWord)
        for word in ((0,) * 12, (2, 2), (1, 0), (), (0, 0, 0, 0, 1)):
            check_refused(self, missing_step, {"word": word, "letters": 2}, "letters", NO_LETTERS, InvalidLetters)


if __name__ == "__main__":
    unittest.main()
