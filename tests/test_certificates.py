"""Certificates: points 2 to 5 and 28 and flowpieces/certificates.py."""

import unittest
from fractions import Fraction

from flowpieces.brackets import coordinates, is_of_flow, nested
from flowpieces.certificates import (
    certify_bound,
    certify_brackets,
    certify_flow,
    certify_followed,
    certify_kept,
    certify_lag,
    certify_likeness,
    certify_order,
    certify_parts,
    certify_processed,
    certify_swing,
)
from flowpieces.checker import accepts
from flowpieces.errors import (
    InvalidFraction,
    InvalidLength,
    InvalidLetters,
    InvalidNumber,
    InvalidParts,
    InvalidRelations,
    InvalidStep,
    InvalidSum,
    NotRight,
)
from flowpieces.forwards import calmest_step, lag_of
from flowpieces.orders import change_followed, order_of, step_following
from flowpieces.parts import in_parts, raises
from flowpieces.processed import processed_order
from flowpieces.relations import kept_order
from flowpieces.steps import are_alike, joined, mirrored, series_of, timed, undoing, whole_of
from flowpieces.swings import swing_bound, swing_word
from flowpieces.words import plus, times_number
from samples import (
    HALF,
    LESS,
    NIL,
    NO_FRACTIONS,
    NO_LENGTHS,
    NO_LETTERS,
    NO_STEPS,
    NO_SUMS,
    ONE,
    STRANGE,
    WIDE,
    check_refused,
    fixed_source,
    pair_of,
    random_fraction,
    random_step,
    random_sum,
)

LEAD, LEAP = ((0, ONE), (1, ONE)), ((0, HALF), (1, ONE), (0, HALF))
THREE = LEAD + ((2, ONE),)
LEAP3 = ((0, HALF), (1, HALF), (2, ONE), (1, HALF), (0, HALF))
SIXTHS = (HALF, (2, 3), (5, 6), LESS)
STRAIGHT = (((0,), ONE), ((1,), ONE))
SWAP, LOW, HIGH = nested((0, 1)), nested((0, 0, 1)), nested((0, 1, 1))
UNIT = (((), ONE),)
WITH_TWO = ((2, ONE),), ((2, NIL),) + LEAP, LEAP + ((2, ONE), (2, LESS))
NOT_LED = ((), (((), HALF),), (((0,), ONE),), (((), (2, 1)), ((0,), ONE)), (((), LESS),))
TOO_LONG = (((0,) * 7, ONE),), plus(UNIT, (((0, 1) * 4, HALF),)), plus(UNIT, (((2,) * 12, ONE),))
NO_RELATIONS = STRANGE + ((SWAP, ()), ((),), (SWAP,) * 5, [SWAP], SWAP, (UNIT,), ((((0, 1), ONE),),), (STRAIGHT,))


class Case(unittest.TestCase):
    def check_pair(self, function, told, *arguments, names=()):
        """A certificate is accepted, and its claim has the arguments themselves and what is told."""
        pair = function(*arguments)
        self.assertIs(type(pair), tuple)
        claim, paper = pair
        self.assertEqual(claim[0], told[0])
        self.assertEqual(claim, (told[0],) + arguments[: len(arguments) - told[2]] + told[1] + arguments[len(arguments) - told[2] :])
        for argument in arguments:
            self.assertTrue(any(part is argument for part in claim[1:]) or type(argument) is int)
        self.assertIs(accepts(claim, paper), True)
        if names:
            self.assertEqual(function(**dict(reversed(list(zip(names, arguments))))), pair)
        return paper


class Examples(unittest.TestCase):
    def test_them(self):
        same = (("alike", ((0, (1, 1)), (1, (1, 1))), ((0, (1, 1)), (1, (1, 1)))), ())
        self.assertEqual(certify_likeness(LEAD, LEAD), same)
        self.assertEqual(certify_likeness(LEAD, LEAP)[0][0], "unlike")
        self.assertEqual(certify_lag(LEAP), (("lag", ((0, (1, 2)), (1, (1, 1)), (0, (1, 2))), (1, 24)), ()))


class Certificates(Case):
    def test_likeness(self):
        source = fixed_source(201)
        names = ("step", "other")
        for _ in range(15):
            step, other = random_step(source, 3, 3), random_step(source, 3, 3)
            word = "alike" if are_alike(step, other) else "unlike"
            self.check_pair(certify_likeness, (word, (), 0), step, other, names=names)
            twin = joined(((1, NIL),), step)
            self.assertEqual(self.check_pair(certify_likeness, ("alike", (), 0), step, twin, names=names), ())
        self.check_pair(certify_likeness, ("unlike", (), 0), (), ((0, WIDE),), names=names)
        wide = tuple((at % 3, WIDE) for at in range(60))
        self.check_pair(certify_likeness, ("unlike", (), 0), wide, mirrored(wide))
        self.check_pair(certify_likeness, ("alike", (), 0), joined(wide, undoing(wide)), ())

    def test_orders(self):
        source = fixed_source(202)
        names = ("step", "letters")
        for letters in (2, 3):
            steps = [(), THREE[:letters], (LEAP, LEAP3)[letters - 2], random_step(source, letters, 5), in_parts(LEAP, SIXTHS)]
            for step in steps + [tuple((at % 2, WIDE) for at in range(60))]:
                self.check_pair(certify_order, ("order", (order_of(step, letters),), 0), step, letters, names=names)
        last = step_following(STRAIGHT + (((2,), ONE),), 3)
        self.check_pair(certify_order, ("order", (order_of(last, 3),), 0), last, 3)

    def test_sums(self):
        source = fixed_source(203)
        for terms in [random_sum(source, 3, 6, 4) for _ in range(8)] + [(), SWAP, plus(SWAP, UNIT), change_followed(LEAP, 6)]:
            found = coordinates(terms)
            word = "no brackets" if found is None else "brackets"
            paper = self.check_pair(certify_brackets, (word, (), 0), terms, names=("terms",))
            self.assertEqual(paper, () if found is None else found)
        for _ in range(10):
            terms = plus(series_of(random_step(source, 2, 3), 4), random_sum(source, 2, 4, source.randint(0, 1), 2))
            for length in range(1, 7):
                word = "of a flow" if is_of_flow(terms, length) else "of no flow"
                self.check_pair(certify_flow, (word, (), 0), terms, length, names=("terms", "length"))
        for terms, length, word in (
            (UNIT, 6, "of a flow"), (whole_of(3, 4), 4, "of a flow"), (plus(UNIT, STRAIGHT), 1, "of a flow"),
            (plus(UNIT, STRAIGHT), 2, "of no flow"), (plus(whole_of(2, 6), (((0, 1) * 3, WIDE),)), 6, "of no flow"),
        ):
            self.check_pair(certify_flow, (word, (), 0), terms, length)

    def test_changes(self):
        source = fixed_source(204)
        for letters, last in ((2, 6), (3, 4)):
            step = random_step(source, letters, 4)
            for length in range(1, last + 1):
                change = change_followed(step, length)
                if all(letter != 2 for letter, _ in step) or length <= 4:
                    self.check_pair(certify_followed, ("follows", (change,), 1), step, length, names=("step", "length"))
        self.check_pair(certify_followed, ("follows", ((),), 1), (), 6)

    def test_lags(self):
        for step in (LEAP, in_parts(LEAP, SIXTHS), calmest_step(5, 1), in_parts(LEAP, (HALF, HALF))):
            self.check_pair(certify_lag, ("lag", (lag_of(step),), 0), step, names=("step",))

    def test_parts(self):
        source = fixed_source(205)
        pool = [SIXTHS, (ONE,), (NIL,), (HALF, HALF), (WIDE,), (ONE, LESS)] + [(random_fraction(source),) * 2 for _ in range(3)]
        for parts in pool:
            for order in (1, 2, 3):
                word = "raises" if raises(parts, order) else "does not raise"
                paper = self.check_pair(certify_parts, (word, (), 0), parts, order, names=("parts", "order"))
                if word == "raises":
                    self.assertEqual(paper, ())
                else:
                    self.assertEqual(order_of(paper, 2), order)
                    self.assertLessEqual(order_of(in_parts(paper, parts), 2), order)

    def test_processed_orders(self):
        source = fixed_source(206)
        for letters in (2, 3):
            for base in (THREE[:letters], (LEAP, LEAP3)[letters - 2], in_parts((LEAP, LEAP3)[letters - 2], SIXTHS), ()):
                ahead = random_step(source, letters, 2)
                step = joined(joined(ahead, base), undoing(ahead))
                told = ("processed", (processed_order(step, letters),), 0)
                self.check_pair(certify_processed, told, step, letters, names=("step", "letters"))

    def test_kept_orders(self):
        source = fixed_source(207)
        names = ("step", "letters", "relations")
        for letters in (2, 3):
            for step in (THREE[:letters], (LEAP, LEAP3)[letters - 2], random_step(source, letters, 4)):
                for relations in ((), (SWAP,), (LOW, HIGH), (HIGH,), (nested((0, 1, 1, 1)), LOW, SWAP, SWAP)):
                    told = ("kept order", (kept_order(step, letters, relations),), 0)
                    self.check_pair(certify_kept, told, step, letters, relations, names=names)
        relations = (SWAP, nested((0, 2)), times_number(nested((1, 2)), WIDE))
        self.assertEqual(self.check_pair(certify_kept, ("kept order", (4,), 0), THREE, 3, relations), ())

    def test_swings(self):
        source = fixed_source(208)
        for _ in range(20):
            step, time = random_step(source, 2, 4), pair_of(Fraction(source.randint(1, 9), source.randint(1, 4)))
            told = ("swings", (swing_word(step, time),), 0)
            self.assertEqual(self.check_pair(certify_swing, told, step, time, names=("step", "time")), ())
        for step in (LEAD, LEAP, in_parts(LEAP, (HALF, HALF)), in_parts(LEAP, SIXTHS)):
            for many in (1, 1000, 10**6):
                told = ("bound", (swing_bound(step, many),), 0)
                self.assertEqual(self.check_pair(certify_bound, told, step, many, names=("step", "many")), ())


class Refusals(unittest.TestCase):
    def test_likeness_and_orders(self):
        right = {"step": LEAD, "other": LEAP}
        check_refused(self, certify_likeness, right, "step", NO_STEPS, InvalidStep)
        check_refused(self, certify_likeness, right, "other", NO_STEPS, InvalidStep)
        check_refused(self, certify_likeness, {"step": 7, "other": None}, "step", [7], InvalidStep)
        for function in (certify_order, certify_processed):
            right = {"step": LEAD, "letters": 2}
            check_refused(self, function, right, "step", NO_STEPS + WITH_TWO, InvalidStep)
            check_refused(self, function, right, "letters", NO_LETTERS, InvalidLetters)
            check_refused(self, function, {"step": THREE, "letters": 2}, "letters", [None, 4], InvalidLetters)

    def test_sums(self):
        check_refused(self, certify_brackets, {"terms": SWAP}, "terms", NO_SUMS + TOO_LONG, InvalidSum)
        right = {"terms": UNIT, "length": 2}
        check_refused(self, certify_flow, right, "terms", NO_SUMS + TOO_LONG + NOT_LED, InvalidSum)
        check_refused(self, certify_flow, {**right, "length": None}, "terms", NOT_LED, InvalidSum)
        check_refused(self, certify_flow, right, "length", NO_LENGTHS, InvalidLength)
        with_two = {**right, "terms": plus(UNIT, (((2,), ONE),))}
        check_refused(self, certify_flow, with_two, "length", NO_LENGTHS + (5, 6), InvalidLength)

    def test_changes_and_lags(self):
        right = {"step": LEAD, "length": 2}
        check_refused(self, certify_followed, right, "step", NO_STEPS, InvalidStep)
        check_refused(self, certify_followed, right, "length", NO_LENGTHS, InvalidLength)
        check_refused(self, certify_followed, {**right, "step": THREE}, "length", NO_LENGTHS + (5, 6), InvalidLength)
        check_refused(self, certify_lag, {"step": LEAP}, "step", NO_STEPS + WITH_TWO, InvalidStep)
        for step in (LEAD, (), timed(LEAP, HALF)):
            with self.assertRaises(NotRight):
                certify_lag(step)

    def test_parts(self):
        right = {"parts": SIXTHS, "order": 2}
        no_parts = STRANGE + NO_FRACTIONS + tuple((value,) for value in NO_FRACTIONS)
        check_refused(self, certify_parts, right, "parts", no_parts, InvalidParts)
        check_refused(self, certify_parts, right, "order", STRANGE + (0, -1, 4, 5, 10, 11, 10**399), InvalidNumber)
        check_refused(self, certify_parts, {"parts": (), "order": None}, "parts", [(), None], InvalidParts)

    def test_kept_orders(self):
        right = {"step": LEAD, "letters": 2, "relations": (SWAP,)}
        check_refused(self, certify_kept, right, "step", NO_STEPS + WITH_TWO, InvalidStep)
        check_refused(self, certify_kept, right, "letters", NO_LETTERS, InvalidLetters)
        check_refused(self, certify_kept, right, "relations", NO_RELATIONS + ((nested((0, 2)),),), InvalidRelations)
        check_refused(self, certify_kept, {**right, "letters": 3}, "relations", NO_RELATIONS, InvalidRelations)

    def test_swings(self):
        right = {"step": LEAP, "time": ONE}
        check_refused(self, certify_swing, right, "step", NO_STEPS + WITH_TWO, InvalidStep)
        check_refused(self, certify_swing, right, "time", NO_FRACTIONS + (NIL, LESS), InvalidFraction)
        right = {"step": LEAP, "many": 1}
        check_refused(self, certify_bound, right, "step", NO_STEPS + WITH_TWO, InvalidStep)
        check_refused(self, certify_bound, right, "many", STRANGE + (0, -1, 10**6 + 1), InvalidNumber)
        check_refused(self, certify_bound, {"step": (), "many": 1}, "many", [0], InvalidNumber)
        for step in ((), ((0, ONE),), timed(LEAP, HALF)):
            with self.assertRaises(NotRight):
                certify_bound(step, 1)


if __name__ == "__main__":
    unittest.main()
