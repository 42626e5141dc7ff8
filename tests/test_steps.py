"""Steps: points 3 to 5 and 9 to 11 and flowpieces/steps.py."""

import unittest
from fractions import Fraction

from flowpieces.errors import InvalidFraction, InvalidLength, InvalidLetters, InvalidStep
from flowpieces.steps import (
    are_alike,
    is_step,
    is_symmetric,
    joined,
    mirrored,
    parting_word,
    series_of,
    short_form,
    timed,
    undoing,
    whole_of,
)
from flowpieces.tables import flow_table, read_in, shifts, step_table
from flowpieces.words import exponential, logarithm, number_at, part_of, product
from plain import all_words, as_sum, plain_series
from samples import (
    HALF,
    LESS,
    NIL,
    NO_FRACTIONS,
    NO_LENGTHS,
    NO_LETTERS,
    NO_STEPS,
    ONE,
    STRANGE,
    WIDE,
    check_refused,
    fixed_source,
    pair_of,
    random_fraction,
    random_step,
    random_table,
    with_each_place_changed,
)

LEAD, LEAP = ((0, ONE), (1, ONE)), ((0, HALF), (1, ONE), (0, HALF))
UNIT = (((), ONE),)


def crumbled(source, step):
    """A step alike the given one: pieces of 0, pieces cut in two, and steps with their undoing put in."""
    pieces = list(step)
    for _ in range(6):
        at, letter, number = source.randint(0, len(pieces)), source.randrange(3), random_fraction(source)
        kind = source.randrange(3)
        if kind == 0:
            pieces.insert(at, (letter, NIL))
        elif kind == 1:
            pieces[at:at] = [(letter, number), (letter, pair_of(-Fraction(*number)))]
        elif at < len(pieces):
            letter, whole = pieces[at]
            pieces[at : at + 1] = [(letter, number), (letter, pair_of(Fraction(*whole) - Fraction(*number)))]
    return tuple(pieces)


def plain_short(source, step):
    """The short form, by taking away or putting together at one place after the other, in any order."""
    pieces = [(letter, Fraction(*number)) for letter, number in step]
    while True:
        nils = [at for at, piece in enumerate(pieces) if piece[1] == 0]
        twins = [at for at in range(1, len(pieces)) if pieces[at - 1][0] == pieces[at][0]]
        if not nils + twins:
            return tuple((letter, pair_of(number)) for letter, number in pieces)
        at = source.choice(nils + twins)
        if at in nils:
            del pieces[at]
        else:
            pieces[at - 1 : at + 1] = [(pieces[at][0], pieces[at - 1][1] + pieces[at][1])]


def few_fractions_step(source, letters, pieces):
    """A step in which much falls together."""
    return tuple((source.randrange(letters), source.choice((ONE, LESS, NIL, HALF, (-1, 2)))) for _ in range(pieces))


def wide_step(pieces, letters=2):
    source = fixed_source(99)
    found = []
    for at in range(pieces):
        number = Fraction(source.randrange(1, 10**399), source.randrange(1, 10**399))
        found.append((at % letters, pair_of(number * source.choice((1, -1)))))
    return tuple(found)


class Examples(unittest.TestCase):
    def test_likeness(self):
        self.assertIs(is_step(LEAP), True)
        self.assertIs(is_step(((3, ONE),)), False)
        self.assertEqual(short_form(((0, HALF), (0, HALF), (1, NIL), (0, LESS), (1, ONE))), ((1, (1, 1)),))
        self.assertIs(are_alike(joined(LEAP, undoing(LEAP)), ()), True)
        self.assertEqual(parting_word(LEAD, LEAP), (0, 1, 0, 1, 0))
        self.assertIsNone(parting_word(LEAP, LEAP))

    def test_made_steps(self):
        self.assertEqual(undoing(LEAD), ((1, (-1, 1)), (0, (-1, 1))))
        self.assertEqual(mirrored(LEAD), ((1, (1, 1)), (0, (1, 1))))
        self.assertEqual(timed(LEAD, HALF), ((0, (1, 2)), (1, (1, 2))))
        self.assertIs(is_symmetric(LEAP), True)
        self.assertIs(is_symmetric(LEAD), False)

    def test_series(self):
        told = (((), (1, 1)), ((0,), (1, 1)), ((1,), (1, 1)), ((0, 0), (1, 2)), ((0, 1), (1, 1)), ((1, 1), (1, 2)))
        self.assertEqual(series_of(LEAD, 2), told)
        self.assertEqual(whole_of(2, 1), (((), (1, 1)), ((0,), (1, 1)), ((1,), (1, 1))))


class WhatTheyAre(unittest.TestCase):
    def test_steps(self):
        for value in ((), ((0, ONE),), ((0, HALF), (1, ONE), (0, HALF)), ((2, NIL), (2, (-3, 4)), (0, WIDE))):
            self.assertIs(is_step(value), True)
        self.assertIs(is_step(value=()), True)
        self.assertIs(is_step(wide_step(60)), True)

    def test_no_steps(self):
        for value in NO_STEPS:
            self.assertIs(is_step(value), False)

    def test_any_value_in_any_place(self):
        for strange in STRANGE:
            for value in with_each_place_changed(LEAP, strange):
                self.assertIs(is_step(value), False)


class ShortForms(unittest.TestCase):
    def test_in_whatever_order(self):
        source = fixed_source(31)
        for letters in (1, 2, 3):
            for pieces in range(12):
                for step in (few_fractions_step(source, letters, pieces), random_step(source, letters, pieces)):
                    told = plain_short(source, step)
                    self.assertEqual(short_form(step), told)
                    self.assertEqual(short_form(step=step), told)
                    self.assertEqual(short_form(told), told)

    def test_edges(self):
        self.assertEqual(short_form(()), ())
        self.assertEqual(short_form(((2, NIL),)), ())
        self.assertEqual(short_form(((0, ONE), (1, NIL), (0, LESS))), ())
        self.assertEqual(short_form(((0, ONE), (1, ONE), (1, LESS), (0, ONE))), ((0, (2, 1)),))
        self.assertEqual(short_form(((0, ONE), (2, ONE), (0, LESS))), ((0, ONE), (2, ONE), (0, LESS)))
        self.assertEqual(short_form(((1, WIDE), (1, LESS))), ((1, pair_of(Fraction(*WIDE) - 1)),))

    def test_sixty_pieces(self):
        step = wide_step(60)
        self.assertEqual(short_form(step), step)
        self.assertEqual(short_form(step[:30] + undoing(step[:30])), ())
        total = sum(Fraction(*number) for _, number in step)
        self.assertEqual(short_form(tuple((2, number) for _, number in step)), ((2, pair_of(total)),))


class Likeness(unittest.TestCase):
    def test_alike_steps(self):
        source = fixed_source(32)
        for pieces in (0, 1, 2, 5, 9):
            for _ in range(6):
                step = random_step(source, 3, pieces)
                other = crumbled(source, step)
                self.assertIs(are_alike(step, other), True)
                self.assertIs(are_alike(step=other, other=step), True)
                self.assertIsNone(parting_word(step, other))
                tables = tuple(random_table(source, 3, True) for _ in range(3))
                self.assertEqual(step_table(step, tables, HALF), step_table(other, tables, HALF))

    def test_other_steps_differ_at_the_shifts_of_their_word(self):
        source = fixed_source(33)
        for _ in range(60):
            step, other = few_fractions_step(source, 3, 4), few_fractions_step(source, 3, 4)
            parting = plain_short(source, step + undoing(other))
            if parting == ():
                self.assertIs(are_alike(step, other), True)
                self.assertIsNone(parting_word(step, other))
                continue
            self.assertIs(are_alike(step, other), False)
            word = parting_word(step, other)
            self.assertEqual(word, tuple(letter for letter, _ in parting))
            self.assertEqual(parting_word(other=other, step=step), word)
            tables = shifts(word, 3)
            self.assertNotEqual(step_table(step, tables, ONE), step_table(other, tables, ONE))
            # The number there is the product of the fractions.
            number = Fraction(1)
            for _, factor in parting:
                number *= Fraction(*factor)
            corner = step_table(joined(step, undoing(other)), tables, ONE)[0][-1]
            self.assertEqual(corner, pair_of(number))

    def test_edges(self):
        self.assertIs(are_alike((), ()), True)
        self.assertIs(are_alike((), ((0, NIL), (2, NIL))), True)
        self.assertIs(are_alike(((0, ONE), (1, ONE)), ((1, ONE), (0, ONE))), False)
        self.assertIsNone(parting_word((), ()))
        self.assertEqual(parting_word((), ((2, ONE),)), (2,))
        self.assertEqual(parting_word(((0, ONE),), ((0, HALF),)), (0,))
        self.assertEqual(parting_word(LEAP, ()), (0, 1, 0))

    def test_sixty_pieces(self):
        step = wide_step(60)
        self.assertIs(are_alike(step, step), True)
        self.assertIs(are_alike(step, mirrored(step)), False)
        # Nothing falls together but the two pieces in the middle.
        other = step[:59] + ((1, ONE),)
        self.assertEqual(parting_word(step, other), (0, 1) * 29 + (0, 1, 0) + (1, 0) * 29)
        self.assertEqual(parting_word(step, timed(step, LESS)), (0, 1) * 29 + (0, 1, 0) + (1, 0) * 29)


class MadeSteps(unittest.TestCase):
    def test_all_pieces_stay(self):
        step = ((0, NIL), (0, HALF), (0, (-1, 2)), (2, (3, 4)))
        self.assertEqual(undoing(step), ((2, (-3, 4)), (0, (1, 2)), (0, (-1, 2)), (0, (0, 1))))
        self.assertEqual(mirrored(step), ((2, (3, 4)), (0, (-1, 2)), (0, (1, 2)), (0, (0, 1))))
        self.assertEqual(timed(step, (-2, 3)), ((0, NIL), (0, (-1, 3)), (0, (1, 3)), (2, (-1, 2))))
        self.assertEqual(timed(step, NIL), ((0, NIL), (0, NIL), (0, NIL), (2, NIL)))
        self.assertEqual(joined(step, step), step + step)

    def test_by_name(self):
        self.assertEqual(undoing(step=LEAD), undoing(LEAD))
        self.assertEqual(mirrored(step=LEAD), mirrored(LEAD))
        self.assertEqual(timed(fraction=HALF, step=LEAD), timed(LEAD, HALF))
        self.assertEqual(joined(other=LEAP, step=LEAD), LEAD + LEAP)
        self.assertIs(is_symmetric(step=LEAP), True)

    def test_nothing(self):
        for made in (undoing(()), mirrored(()), timed((), WIDE), joined((), ()), short_form(())):
            self.assertEqual(made, ())

    def test_what_they_do_in_tables(self):
        source = fixed_source(34)
        for _ in range(6):
            step, other, number = random_step(source, 2, 5), random_step(source, 2, 4), random_fraction(source)
            tables = tuple(random_table(source, 4, True) for _ in range(2))
            unit = step_table((), tables, ONE)
            self.assertEqual(step_table(joined(step, undoing(step)), tables, number), unit)
            self.assertEqual(step_table(timed(step, number), tables, ONE), step_table(step, tables, number))
            both = step_table(joined(step, other), tables, ONE)
            apart = step_table(step, tables, ONE), step_table(other, tables, ONE)
            self.assertEqual(both, read_in((((0, 1), ONE),), apart))

    def test_sixty_wide_pieces(self):
        step = wide_step(60, 3)
        for made in (undoing(step), mirrored(step), timed(step, WIDE), joined(step, step)):
            self.assertTrue(is_step(made))
            self.assertIn(len(made), (60, 120))
        self.assertEqual(undoing(undoing(step)), step)
        self.assertEqual(timed(timed(step, WIDE), pair_of(1 / Fraction(*WIDE))), step)


class Symmetry(unittest.TestCase):
    def test_by_its_short_form(self):
        source = fixed_source(35)
        for pieces in range(1, 6):
            for _ in range(8):
                half, middle = random_step(source, 3, pieces), random_step(source, 3, 1)
                for step in (half + mirrored(half), half + middle + mirrored(half), half, half + middle):
                    other = crumbled(source, step)
                    told = plain_short(source, step) == plain_short(source, mirrored(step))
                    self.assertIs(is_symmetric(step), told)
                    self.assertIs(is_symmetric(other), told)
                    self.assertIs(are_alike(step, mirrored(step)), told)

    def test_by_going_back(self):
        source = fixed_source(36)
        tables = tuple(random_table(source, 4, True) for _ in range(2))
        unit = step_table((), tables, ONE)
        half = random_step(source, 2, 4)
        for step, told in ((half + mirrored(half), True), (half, False), (LEAP, True), (LEAD, False)):
            self.assertIs(is_symmetric(step), told)
            back = step_table(joined(step, timed(step, LESS)), tables, HALF)
            self.assertIs(back == unit, told)

    def test_edges(self):
        for step in ((), ((2, NIL),), ((1, WIDE),), ((0, ONE), (0, HALF)), ((0, ONE), (1, NIL), (0, (5, 3)))):
            self.assertIs(is_symmetric(step), True)
        for step in (((0, ONE), (1, ONE), (0, HALF)), ((0, ONE), (1, ONE), (2, ONE)), ((0, ONE), (1, HALF))):
            self.assertIs(is_symmetric(step), False)
        step = wide_step(30)
        self.assertIs(is_symmetric(step + mirrored(step)), True)
        self.assertIs(is_symmetric(wide_step(60)), False)


class Series(unittest.TestCase):
    def test_products_of_exponentials(self):
        source = fixed_source(37)
        for letters, most in ((2, 6), (3, 4)):
            for length in range(1, most + 1):
                for step in (random_step(source, letters, 5), few_fractions_step(source, letters, 6)):
                    told = as_sum(plain_series(step, length))
                    self.assertEqual(series_of(step, length), told)
                    self.assertEqual(series_of(length=length, step=step), told)
                    self.assertEqual(series_of(crumbled(source, step)[:60], min(length, 4)),
                                     as_sum(plain_series(step, min(length, 4))))

    def test_edges(self):
        for length in (1, 6):
            self.assertEqual(series_of((), length), UNIT)
            self.assertEqual(series_of(((0, NIL), (1, NIL)), length), UNIT)
        self.assertEqual(series_of(((2, NIL),), 4), UNIT)
        self.assertEqual(series_of(((0, LESS),), 6)[-1], ((0,) * 6, (1, 720)))
        self.assertEqual(series_of(((2, (-2, 1)),), 4)[-1], ((2,) * 4, (2, 3)))
        self.assertEqual(series_of(((1, WIDE),), 1), UNIT + (((1,), WIDE),))

    def test_tables_of_steps(self):
        # Closed tables of five rows leave nothing beyond the length 4.
        source = fixed_source(38)
        for letters in (2, 3):
            step = random_step(source, letters, 6)
            tables = tuple(random_table(source, 5, True) for _ in range(letters))
            for number in (ONE, HALF, (-7, 3)):
                times = tuple((word, pair_of(Fraction(*at) * Fraction(*number) ** len(word)))
                              for word, at in series_of(step, 4))
                self.assertEqual(step_table(step, tables, number), read_in(times, tables))

    def test_sixty_wide_pieces(self):
        for letters in (2, 3):
            step = wide_step(60, letters)
            self.assertEqual(series_of(step, 2), as_sum(plain_series(step, 2)))
        # The undoing's series is the inverse of the series, at all words.
        step = wide_step(20)
        self.assertEqual(product(series_of(step, 3), series_of(undoing(step), 3), 3), UNIT)

    def test_long_steps_that_were_returned(self):
        step = LEAP
        for _ in range(9):
            step = joined(step, timed(step, LESS))
        self.assertEqual(len(step), 3 * 2**9)
        self.assertEqual(series_of(step, 6), UNIT)
        self.assertIs(are_alike(step, ()), True)

    def test_logarithm_of_symmetric_steps(self):
        source = fixed_source(39)
        half = random_step(source, 2, 4)
        change = logarithm(series_of(half + mirrored(half), 6), 6)
        for length in (2, 4, 6):
            self.assertEqual(part_of(change, length), ())
        self.assertNotEqual(part_of(change, 3), ())


class Whole(unittest.TestCase):
    def test_numbers(self):
        factorials = (1, 1, 2, 6, 24, 120, 720)
        for letters, most in ((2, 6), (3, 4)):
            for length in range(1, most + 1):
                told = tuple((word, (1, factorials[len(word)])) for word in all_words(letters, length))
                self.assertEqual(whole_of(letters, length), told)
                self.assertEqual(whole_of(length=length, letters=letters), told)
                straight = tuple(((letter,), ONE) for letter in range(letters))
                self.assertEqual(exponential(straight, length), told)

    def test_flows(self):
        source = fixed_source(40)
        for letters in (2, 3):
            tables = tuple(random_table(source, 5, True) for _ in range(letters))
            times = tuple((word, pair_of(Fraction(*at) * Fraction(-2, 3) ** len(word)))
                          for word, at in whole_of(letters, 4))
            self.assertEqual(flow_table(tables, (-2, 3)), read_in(times, tables))

    def test_letters_that_are_let(self):
        self.assertEqual(number_at(whole_of(2, 6), (0, 1, 0, 1, 0, 1)), (1, 720))
        self.assertEqual(number_at(whole_of(2, 6), (2,)), NIL)
        self.assertEqual(number_at(whole_of(3, 4), (2, 1, 0, 2)), (1, 24))


class Refusals(unittest.TestCase):
    def test_steps(self):
        for function in (short_form, undoing, mirrored, is_symmetric):
            check_refused(self, function, {"step": LEAP}, "step", NO_STEPS, InvalidStep)
        for function in (are_alike, parting_word, joined):
            check_refused(self, function, {"step": LEAP, "other": LEAD}, "step", NO_STEPS, InvalidStep)
            check_refused(self, function, {"step": LEAP, "other": LEAD}, "other", NO_STEPS, InvalidStep)
        check_refused(self, timed, {"step": LEAP, "fraction": HALF}, "step", NO_STEPS, InvalidStep)
        check_refused(self, series_of, {"step": LEAP, "length": 2}, "step", NO_STEPS, InvalidStep)

    def test_other_arguments(self):
        check_refused(self, timed, {"step": LEAP, "fraction": HALF}, "fraction", NO_FRACTIONS, InvalidFraction)
        check_refused(self, series_of, {"step": LEAP, "length": 2}, "length", NO_LENGTHS, InvalidLength)
        check_refused(self, whole_of, {"letters": 2, "length": 2}, "letters", NO_LETTERS, InvalidLetters)
        check_refused(self, whole_of, {"letters": 2, "length": 2}, "length", NO_LENGTHS, InvalidLength)
        check_refused(self, whole_of, {"letters": 3, "length": 4}, "length", NO_LENGTHS + (5, 6), InvalidLength)

    def test_the_letter_two_lets_lengths_up_to_four(self):
        # As it was passed: also where the short form has no such letter.
        for step in (((2, ONE),), ((0, ONE), (2, NIL)), ((2, ONE), (2, LESS), (1, ONE))):
            series_of(step, 4)
            check_refused(self, series_of, {"step": step, "length": 4}, "length", [5, 6], InvalidLength)
        series_of(((0, (2, 1)), (1, (1, 2))), 6)

    def test_the_first_wrong_argument_is_refused(self):
        for function in (are_alike, parting_word, joined):
            check_refused(self, function, {"step": None, "other": None}, "step", [7], InvalidStep)
        check_refused(self, timed, {"step": None, "fraction": None}, "step", [7], InvalidStep)
        check_refused(self, series_of, {"step": None, "length": None}, "step", [7], InvalidStep)
        check_refused(self, whole_of, {"letters": None, "length": None}, "letters", [7], InvalidLetters)

    def test_arguments_stay(self):
        step = ((0, ONE), (0, NIL), (1, HALF))
        for function in (short_form, undoing, mirrored):
            self.assertEqual(function(step), function(((0, (1, 1)), (0, (0, 1)), (1, (1, 2)))))
        self.assertEqual(step, ((0, ONE), (0, NIL), (1, HALF)))


if __name__ == "__main__":
    unittest.main()
