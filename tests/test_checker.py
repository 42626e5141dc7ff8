"""The checker: points 2 to 5 and 28 and flowpieces/checker.py."""

import unittest
from fractions import Fraction
from itertools import product as choices

from flowpieces.brackets import coordinates, nested, shuffles
from flowpieces.checker import accepts
from flowpieces.orders import change_followed, miss_of, order_of, step_towards
from flowpieces.parts import in_parts, raises, unraised_step
from flowpieces.processed import leading_in, processed_order
from flowpieces.relations import kept_order, kept_weights
from flowpieces.steps import joined, mirrored, parting_word, series_of, timed, undoing, whole_of
from flowpieces.swings import swing_bound, swing_word
from flowpieces.words import exponential, logarithm, plus, product, times_number
from plain import all_words, plain_multiples, plain_order_and_miss, plain_series
from samples import (
    HALF,
    LESS,
    NIL,
    ONE,
    STRANGE,
    WIDE,
    Alike,
    Hostile,
    fixed_source,
    pair_of,
    random_fraction,
    random_step,
    random_sum,
    with_each_place_changed,
)

TWO = (2, 1)
LEAD, LEAP = ((0, ONE), (1, ONE)), ((0, HALF), (1, ONE), (0, HALF))
THREE = LEAD + ((2, ONE),)
LEAP3 = ((0, HALF), (1, HALF), (2, ONE), (1, HALF), (0, HALF))
SIXTHS = (HALF, (2, 3), (5, 6), LESS)
STRAIGHT = (((0,), ONE), ((1,), ONE))
SWAP, LOW, HIGH = nested((0, 1)), nested((0, 0, 1)), nested((0, 1, 1))
UNIT = (((), ONE),)
BOTH_ENDS = ((1, 4), (1, 3), (5, 12), (-1, 2), (-1, 2), (5, 12), (1, 3), (1, 4))
# Steps of the order 4, the last length for three letters, and one of the order 6.
FOURTH, FOURTH3 = in_parts(LEAP, BOTH_ENDS), in_parts(LEAP3, BOTH_ENDS)
SIXTH = step_towards(STRAIGHT, 6)
TOUCHING = ((0, (9, 8)), (1, (4, 3)), (0, (-1, 8)), (1, (-1, 3)))
BROKEN = (((), ONE), ((0,), ONE), ((1,), ONE))

# Claims that are so, with papers that show it.
GOOD = (
    (("alike", LEAP, ((0, HALF), (1, NIL), (1, ONE), (0, HALF))), ()), (("alike", (), joined(THREE, undoing(THREE))), ()),
    (("unlike", LEAD, LEAP), (0, 1)), (("unlike", LEAD, LEAP), (0, 1, 0, 1, 0)), (("unlike", (), ((2, WIDE),)), (2,) * 5),
    (("order", LEAD, 2, 1), (0, 1)), (("order", LEAP, 2, 2), (1, 0, 1)), (("order", (), 2, 0), (0,)),
    (("order", LEAP3, 3, 2), (0, 0, 1)), (("order", FOURTH3, 3, 4), ()), (("order", LEAP, 3, 0), (2,)),
    (("brackets", SWAP), (((0, 1), ONE),)), (("brackets", ()), ()), (("brackets", nested((0, 1, 2, 2, 1, 2))), (((0, 1, 2, 2, 1, 2), ONE),)),
    (("no brackets", UNIT), ()), (("no brackets", (((0, 1), ONE),)), ()), (("no brackets", (((2,) * 6, ONE),)), ()),
    (("of a flow", whole_of(2, 6), 6), ()), (("of a flow", UNIT, 6), ()), (("of a flow", BROKEN, 1), ()),
    (("of a flow", whole_of(3, 4), 4), ()), (("of a flow", plus(UNIT, (((0,) * 6, ONE),)), 5), ()),
    (("of no flow", BROKEN, 2), ((0,), (0,))), (("of no flow", BROKEN, 6), ((0,), (1,))),
    (("of no flow", plus(UNIT, (((2, 2), ONE),)), 4), ((2,), (2,))), (("of no flow", plus(UNIT, (((0,) * 6, ONE),)), 6), ((0,), (0,) * 5)),
    (("follows", LEAD, change_followed(LEAD, 4), 4), ()), (("follows", (), (), 6), ()), (("follows", FOURTH, STRAIGHT, 4), ()),
    (("follows", THREE, change_followed(THREE, 3), 3), ()), (("lag", LEAP, (1, 24)), ()), (("lag", FOURTH, NIL), ()),
    (("raises", SIXTHS, 2), ()), (("raises", SIXTHS + (NIL,), 2), ()),
    (("does not raise", (HALF, HALF), 1), LEAD), (("does not raise", (ONE,), 2), LEAP), (("does not raise", (NIL,), 3), in_parts(LEAP, SIXTHS)),
    (("processed", LEAD, 2, 2), (((0,), (-1, 2)),)), (("processed", LEAP, 2, 2), ()), (("processed", (), 3, 0), ()),
    (("processed", THREE, 3, 1), ()), (("processed", LEAP3, 3, 2), ()), (("processed", FOURTH3, 3, 4), ()),
    (("kept order", LEAD, 2, (), 1), (((0, 1), ONE),)), (("kept order", LEAD, 2, (SWAP,), 6), ()),
    (("kept order", LEAP, 2, (LOW,), 2), (((0, 1, 1), ONE), ((1, 0, 1), HALF), ((1, 1, 0), (1, 3)))),
    (("kept order", THREE, 3, (nested((0, 2)), nested((1, 2))), 1), (((0, 1), ONE), ((1, 0), (5, 7)))),
    (("kept order", THREE, 3, (SWAP, nested((0, 2)), nested((1, 2))), 4), ()),
    (("swings", LEAP, ONE, "stays"), ()), (("swings", LEAP, TWO, "creeps"), ()), (("swings", LEAD, WIDE, "grows"), ()),
    (("bound", LEAP, 10, (20, True)), ()), (("bound", TOUCHING, 1000, (2828, False)), ()), (("bound", LEAD, 10**6, (2 * 10**6, True)), ()),
)
LONG = (
    (("order", SIXTH, 2, 6), ()), (("follows", SIXTH, STRAIGHT, 6), ()), (("processed", SIXTH, 2, 6), ()), (("lag", SIXTH, NIL), ()),
    (("kept order", SIXTH, 2, (LOW,), 6), ()),
)


def longer_bracket(terms, letter):
    """The bracket of a sum with a letter, however long it is."""
    behind = tuple((word + (letter,), number) for word, number in terms)
    return plus(behind, tuple(((letter,) + word, (-number[0], number[1])) for word, number in terms))


class Case(unittest.TestCase):
    def check_accepted(self, claim, paper):
        self.assertIs(accepts(claim, paper), True, (claim, paper))
        self.assertIs(accepts(paper=paper, claim=claim), True)

    def check_refused(self, claim, paper):
        self.assertIs(accepts(claim, paper), False, (claim[0], paper) if type(claim) is tuple and claim else None)


class Examples(Case):
    def test_them(self):
        self.assertIs(accepts(("order", LEAD, 2, 1), (0, 1)), True)
        self.assertIs(accepts(("order", LEAD, 2, 1), (0, 0)), False)
        self.assertIs(accepts(("unlike", LEAD, LEAP), (0, 1)), True)
        self.assertIs(accepts(("alike", LEAD, LEAP), ()), False)


class AllClaims(Case):
    def test_good_ones(self):
        for claim, paper in GOOD:
            self.check_accepted(claim, paper)
        for claim, paper in LONG:
            self.assertIs(accepts(claim, paper), True)
        self.assertEqual(len({claim[0] for claim, _ in GOOD}), 15)

    def test_too_few_and_too_many_parts(self):
        for claim, paper in GOOD:
            for wrong in [claim[:size] for size in range(len(claim))] + [claim + (more,) for more in ((), None, ONE, paper)]:
                self.check_refused(wrong, paper)
            self.check_refused(claim[1:], paper)
            self.check_refused(claim + claim[-1:], paper)
            self.check_refused(list(claim), paper)
            self.check_refused((claim, paper), ())
            self.check_refused((claim,), paper)

    def test_values_of_any_kind(self):
        for strange in STRANGE:
            for other in (strange, (), None, ("alike", LEAD, LEAD)):
                self.check_refused(strange, other)
            self.check_refused((strange,), ())
            self.check_refused((strange, LEAD, LEAD), ())
            self.check_refused((strange, strange, strange, strange), strange)
            for claim, _ in GOOD:
                self.check_refused(claim, strange)
                self.check_refused(claim[:1] + (strange,) * (len(claim) - 1), ())

    def test_each_place_changed(self):
        for claim, paper in GOOD:
            if claim[0] in ("alike", "unlike") or sum(len(part) for part in claim if type(part) is tuple) > 30:
                continue
            for strange in (True, False, None, "stay", [], Hostile(), Alike()):
                for wrong in with_each_place_changed(claim[1:], strange):
                    # A bound is told with True or False.
                    if repr(wrong) != repr(claim[1:]):
                        self.check_refused(claim[:1] + wrong, paper)
                for wrong in with_each_place_changed(paper, strange):
                    self.check_refused(claim, wrong)

    def test_true_and_false_in_the_place_of_one_and_nought(self):
        for claim, paper in (
            (("order", LEAD, 2, True), (0, 1)), (("order", (), 2, False), (0,)), (("order", LEAD, 2, 1), (False, True)),
            (("order", LEAD, 2, 1), (0, True)), (("unlike", LEAD, LEAP), (False, 1)), (("brackets", SWAP), (((0, True), ONE),)),
            (("brackets", SWAP), (((0, 1), (True, 1)),)), (("brackets", SWAP), (((0, 1), (1, True)),)), (("lag", FOURTH, (False, 1)), ()),
            (("lag", FOURTH, (0, True)), ()), (("of a flow", BROKEN, True), ()), (("of no flow", BROKEN, 2), ((False,), (0,))),
            (("does not raise", (HALF, HALF), True), LEAD), (("processed", (), 3, False), ()), (("processed", THREE, 3, True), ()),
            (("kept order", LEAD, 2, (), True), (((0, 1), ONE),)), (("bound", LEAP, 10, (20, 1)), ()),
            (("bound", TOUCHING, 1000, (2828, 0)), ()), (("bound", LEAD, True, (2, True)), ()), (("bound", ((1, ONE), (0, ONE)), 1, (True, True)), ()),
            (("swings", LEAP, (True, 1), "stays"), ()), (("alike", LEAD, ((0, (True, 1)), (1, ONE))), ()),
            (("alike", LEAD, ((False, ONE), (1, ONE))), ()), (("follows", LEAD, change_followed(LEAD, 1), True), ()),
            (("raises", SIXTHS[:3] + ((-1, True),), 2), ()),
        ):
            self.check_refused(claim, paper)

    def test_other_numbers_of_letters(self):
        for letters in (0, 1, 4, -2, None, "2", (2,), 10**399):
            self.check_refused(("order", LEAD, letters, 1), (0, 1))
            self.check_refused(("order", (), letters, 0), (0,))
            self.check_refused(("processed", LEAD, letters, 2), (((0,), (-1, 2)),))
            self.check_refused(("processed", (), letters, 0), ())
            self.check_refused(("kept order", LEAD, letters, (), 1), (((0, 1), ONE),))
            self.check_refused(("kept order", LEAD, letters, (SWAP,), 6), ())

    def test_other_words(self):
        for word in ("", "Alike", "alike ", "likeness", "no raise", "kept", "ways", "step", "symmetric", b"alike", ("alike",), None):
            self.check_refused((word, LEAD, LEAD), ())
            self.check_refused((word, LEAD), ())


class Likeness(Case):
    def test_by_all_words(self):
        source = fixed_source(181)
        for _ in range(6):
            first, second = random_step(source, 3, 2), random_step(source, 3, 2)
            series = plain_series(first + undoing(second), 4)
            for word in all_words(3, 4):
                told = word != () and series.get(word, 0) != 0
                self.assertIs(accepts(("unlike", first, second), word), told)
            self.check_accepted(("unlike", first, second), parting_word(first, second))
            self.check_refused(("alike", first, second), ())

    def test_alike_ones(self):
        source = fixed_source(182)
        for _ in range(4):
            step = random_step(source, 3, 4)
            other = joined(joined(((0, NIL),), step), joined(LEAP, undoing(LEAP)))
            self.check_accepted(("alike", step, other), ())
            for word in all_words(3, 3):
                self.check_refused(("unlike", step, other), word)
            self.check_refused(("alike", step, other), (0,))

    def test_pieces_that_cancel_one_another(self):
        step = ((0, ONE), (1, ONE), (0, LESS), (1, LESS))
        for word, told in (
            ((0, 0), False), ((0, 0, 0), False), ((0,) * 12, False), ((1, 1), False), ((0, 1), True), ((1, 0), True), ((0, 0, 1), True),
            ((0, 1, 1), True), ((0, 0, 1, 1), True), ((1, 0, 1, 0), False), ((0, 1, 0, 1), True), ((2,), False), ((0, 2, 1), False),
        ):
            self.assertIs(accepts(("unlike", step, ()), word), told)
            self.assertIs(accepts(("unlike", ((0, ONE), (1, ONE)), ((1, ONE), (0, ONE))), word), told)
        self.assertEqual(plain_series(step, 4).get((1, 0, 1, 0), 0), 0)
        # 3 - 4 + 1: half the squares and the products are 9 / 2 + 8 + 1 / 2 - 12 + 3 - 4.
        step = ((0, (3, 1)), (1, ONE), (0, (-4, 1)), (1, ONE), (0, ONE))
        series = plain_series(step, 6)
        for word in all_words(2, 6):
            self.assertIs(accepts(("unlike", step, ()), word), word != () and series.get(word, 0) != 0)

    def test_long_words(self):
        for first in (tuple((at % 2, (1, at + 1)) for at in range(60)), tuple((at % 2, WIDE) for at in range(20))):
            word = parting_word(first, mirrored(first))
            self.assertEqual(len(word), 2 * len(first))
            self.check_accepted(("unlike", first, mirrored(first)), word)
            self.check_refused(("unlike", first, mirrored(first)), word + (0, 1) * 3)
        # The series of one piece has a number at each word of its letter.
        self.check_accepted(("unlike", ((1, WIDE),), ()), (1,) * 40)
        self.check_refused(("unlike", ((1, WIDE),), ()), (1,) * 40 + (0,))


class Orders(Case):
    def test_no_other_order_and_no_other_word(self):
        source = fixed_source(183)
        for letters, last in ((2, 6), (3, 4)):
            for step in (THREE[:letters], (LEAP, LEAP3)[letters - 2], random_step(source, letters, 4), ()):
                order, miss = plain_order_and_miss(step, letters)
                numbers = dict(miss)
                for number in range(-1, last + 2):
                    for word in all_words(letters, 3):
                        self.assertIs(accepts(("order", step, letters, number), word), number == order and word in numbers)
        for number in range(8):
            self.assertIs(accepts(("order", FOURTH3, 3, number), ()), number == 4)
            self.check_refused(("order", FOURTH3, 3, number), (0, 1))
            if number in (0, 5, 7):
                self.check_refused(("order", SIXTH, 2, number), ())

    def test_the_letter_two_beside_two_letters(self):
        for step in (THREE, ((2, NIL),) + LEAD, LEAD + ((2, ONE), (2, LESS))):
            for number in range(7):
                for word in ((), (0, 1), (2,), (0,)):
                    self.check_refused(("order", step, 2, number), word)
        self.check_accepted(("order", ((2, NIL),) + LEAD, 3, 0), (2,))


class BracketsAndFlows(Case):
    def test_brackets(self):
        source = fixed_source(184)
        for terms in [random_sum(source, 3, 4, 4) for _ in range(10)] + [SWAP, LOW, plus(LOW, SWAP), change_followed(LEAD, 6)]:
            found = coordinates(terms)
            for paper in ((), found, SWAP, UNIT, (((0, 1), ONE),), plus(found or (), (((1,), ONE),)), terms):
                self.assertIs(accepts(("brackets", terms), paper), found is not None and paper == found)
            self.assertIs(accepts(("no brackets", terms), ()), found is None)
        long = longer_bracket(nested((0, 0, 0, 0, 0, 1)), 0)
        for terms in ((((0,) * 7, ONE),), plus(SWAP, (((0, 1) * 4, ONE),)), long):
            for paper in ((), (((0,) * 6 + (1,), LESS),), (((0,) * 6 + (1,), ONE),)):
                self.check_refused(("brackets", terms), paper)
                self.check_refused(("no brackets", terms), paper)
        self.check_refused(("brackets", (((0, 1, 0, 1, 0, 1, 1), ONE),)), (((0, 1, 0, 1, 0, 1, 1), ONE),))

    def test_flows(self):
        source = fixed_source(185)
        words = all_words(2, 3)
        for _ in range(8):
            terms = plus(series_of(random_step(source, 2, 3), 4), random_sum(source, 2, 4, source.randint(0, 1), 2))
            numbers = {word: Fraction(*number) for word, number in terms}
            for length in (1, 2, 3, 4, 6):
                unlike = set()
                for first, second in choices(all_words(2, length), repeat=2):
                    if first == () or second == () or len(first + second) > length:
                        continue
                    both = sum(Fraction(*many) * numbers.get(word, 0) for word, many in shuffles(first, second))
                    if both != numbers.get(first, 0) * numbers.get(second, 0):
                        unlike.add((first, second))
                self.assertIs(accepts(("of a flow", terms, length), ()), not unlike)
                for first, second in choices(words, repeat=2):
                    self.assertIs(accepts(("of no flow", terms, length), (first, second)), (first, second) in unlike)

    def test_sums_without_one(self):
        for terms in ((), (((), HALF),), (((0,), ONE),), (((), TWO), ((0,), ONE)), (((), LESS),)):
            for length in range(1, 7):
                self.check_refused(("of a flow", terms, length), ())
                for paper in (((), ()), ((0,), (0,)), ()):
                    self.check_refused(("of no flow", terms, length), paper)

    def test_lengths(self):
        for length in (0, 7, -1, None, "2", True, 10**399):
            self.check_refused(("of a flow", UNIT, length), ())
            self.check_refused(("of no flow", BROKEN, length), ((0,), (0,)))
            self.check_refused(("follows", (), (), length), ())
        with_two = plus(UNIT, (((2,), ONE),))
        for length in range(1, 8):
            self.assertIs(accepts(("of no flow", with_two, length), ((2,), (2,))), 2 <= length <= 4)
            self.assertIs(accepts(("follows", ((2, NIL),), (), length), ()), length <= 4)
            self.assertIs(accepts(("of a flow", plus(UNIT, (((2, 0) * 3, ONE),)), length), ()), length <= 4)
            self.assertIs(accepts(("follows", (), (), length), ()), length <= 6)
        self.check_refused(("of a flow", plus(UNIT, (((0,) * 7, ONE),)), 2), ())
        self.check_refused(("of no flow", BROKEN, 2), ((0,), (0, 1)))
        self.check_refused(("of no flow", BROKEN, 2), ((0,), ()))
        self.check_refused(("of no flow", BROKEN, 2), ((0,), (0,), (0,)))
        self.check_refused(("of no flow", BROKEN, 2), ((0,),))

    def test_changes_followed(self):
        source = fixed_source(186)
        for length in (1, 2, 3, 4):
            step = random_step(source, 3, 3)
            change = change_followed(step, length)
            self.check_accepted(("follows", step, change, length), ())
            self.check_refused(("follows", step, plus(change, (((0, 1), ONE),)), length), ())
            self.check_refused(("follows", step, plus(change, nested((0,) * length + (1,))), length), ())
            self.check_refused(("follows", step, change, length), change)
            if length > 1:
                self.check_refused(("follows", step, change, length - 1), ())
                self.check_refused(("follows", step, change_followed(step, length - 1), length), ())


class LagsAndParts(Case):
    def test_lags(self):
        for step, lag in ((LEAP, (1, 24)), (FOURTH, NIL), (in_parts(LEAP, (HALF, HALF)), (1, 96))):
            for told in ((1, 24), NIL, (1, 96), (-1, 24), (2, 48), None, 0, (), ONE):
                self.assertIs(accepts(("lag", step, told), ()), told == lag)
                self.check_refused(("lag", step, told), (0, 1))
        for step in (LEAD, (), THREE, LEAP + ((2, NIL),), ((0, ONE),)):
            for told in ((1, 24), NIL, ONE):
                self.check_refused(("lag", step, told), ())

    def test_parts(self):
        source = fixed_source(187)
        steps = {1: LEAD, 2: LEAP, 3: in_parts(LEAP, SIXTHS), 4: FOURTH, 0: ()}
        self.assertEqual([order_of(steps[order], 2) for order in range(5)], [0, 1, 2, 3, 4])
        pool = [SIXTHS, (ONE,), (NIL,), (HALF, HALF), (ONE, ONE, LESS), (ONE, NIL)]
        pool += [tuple(random_fraction(source) for _ in range(3)) for _ in range(3)]
        for parts in pool:
            for number in range(-1, 13):
                told = 1 <= number <= 10 and raises(parts, number)
                self.assertIs(accepts(("raises", parts, number), ()), told)
                for order, step in steps.items():
                    paper_told = 1 <= number <= 3 and not told and order == number
                    self.assertIs(accepts(("does not raise", parts, number), step), paper_told)
            for number in (1, 2, 3):
                paper = unraised_step(parts, 2, number)
                if paper is not None:
                    self.check_accepted(("does not raise", parts, number), paper)
                    self.check_refused(("does not raise", parts, number), paper + ((2, NIL),))
                    self.check_refused(("does not raise", parts, number), ())
                    self.assertLessEqual(plain_order_and_miss(in_parts(paper, parts), 2)[0], number)
        self.check_refused(("raises", (), 2), ())
        self.check_refused(("raises", SIXTHS, 2), (0,))
        self.check_refused(("does not raise", (HALF, HALF), 2), timed(THREE, HALF))


class Processed(Case):
    def test_orders(self):
        source = fixed_source(188)
        for letters, last in ((2, 6), (3, 4)):
            for base in (THREE[:letters], (LEAP, LEAP3)[letters - 2]):
                ahead = random_step(source, letters, 2)
                step = joined(joined(ahead, base), undoing(ahead))
                order, leading = processed_order(step, letters), leading_in(step, letters)
                for number in range(-1, last + 2):
                    self.assertIs(accepts(("processed", step, letters, number), leading), number == order)
                    # With the order 1 it is so behind each sum of a flow.
                    other = plus(leading, (((0,), (1, 7)), ((1,), (1, 9))))
                    self.assertIs(accepts(("processed", step, letters, number), other), number == order == 1)
                    if number != order:
                        self.check_refused(("processed", step, letters, number), ())

    def test_other_leading_ins(self):
        source = fixed_source(189)
        ahead = random_step(source, 2, 2)
        step = joined(joined(ahead, LEAP), undoing(ahead))
        leading = leading_in(step, 2)
        # Behind a flow of the sum of all letters it is as good; what is longer does not matter.
        for number in (ONE, (-2, 3), WIDE):
            other = logarithm(product(exponential(times_number(STRAIGHT, number), 4), exponential(leading, 4), 4), 4)
            self.check_accepted(("processed", step, 2, 2), other)
            self.check_accepted(("processed", step, 2, 2), plus(other, nested((0, 0, 0, 0, 1, 1))))
            self.check_accepted(("processed", step, 2, 2), plus(leading, nested((0, 1))))
        for wrong in (plus(leading, (((), ONE),)), plus(leading, (((0, 0), ONE),)), plus(leading, longer_bracket(nested((0,) * 5 + (1,)), 0))):
            self.check_refused(("processed", step, 2, 2), wrong)
        self.check_refused(("processed", step, 2, 2), plus(leading, nested((0, 2))))
        self.check_refused(("processed", step, 2, 2), plus(leading, (((2,), ONE),)))
        # For three letters it is allowed, and the step of the order 0.
        self.check_accepted(("processed", step, 3, 0), ())
        self.check_refused(("processed", step, 3, 0), leading)
        self.check_accepted(("processed", LEAP3, 3, 2), nested((0, 0, 1, 2, 2, 1)))

    def test_nought(self):
        for step in ((), ((0, ONE), (1, HALF))):
            self.check_accepted(("processed", step, 2, 0), ())
            self.check_refused(("processed", step, 2, 0), (((0,), ONE),))
            self.check_refused(("processed", step, 2, 1), ())
        self.check_refused(("processed", LEAD, 2, 0), ())
        self.check_refused(("processed", LEAD, 2, 1), ())
        self.check_refused(("processed", LEAD, 2, 2), ())
        self.check_refused(("processed", THREE, 2, 1), ())


class Kept(Case):
    def test_orders(self):
        source = fixed_source(190)
        for letters, last in ((2, 6), (3, 4)):
            for relations in ((), (LOW,), (SWAP,), (LOW, HIGH)) + (((nested((0, 2)),),) if letters == 3 else ()):
                for step in (THREE[:letters], (LEAP, LEAP3)[letters - 2], random_step(source, letters, 3)):
                    order, paper = kept_order(step, letters, relations), kept_weights(step, letters, relations)
                    for number in range(-1, last + 2):
                        claim = ("kept order", step, letters, relations, number)
                        self.assertIs(accepts(claim, () if paper is None else paper), number == order)
                        self.assertIs(accepts(claim, ()), number == order == last)

    def test_weights(self):
        source = fixed_source(191)
        seen = [0, 0]
        for step, relations, order in ((LEAD, (), 1), (LEAP, (LOW,), 2), (LEAP, (plus(LOW, HIGH),), 2), (FOURTH, (), 4)):
            miss = {word: Fraction(*number) for word, number in miss_of(step, 2)}
            rows = plain_multiples(relations, 2, order + 1).values()
            self.assertEqual(kept_order(step, 2, relations), order)
            first = kept_weights(step, 2, relations)
            for _ in range(20):
                paper = plus(times_number(first, random_fraction(source)), random_sum(source, 2, order + 1, source.randint(0, 2), order + 1))
                numbers = {word: Fraction(*number) for word, number in paper}
                told = sum(number * miss.get(word, 0) for word, number in numbers.items()) != 0
                told = told and all(sum(numbers.get(word, 0) * number for word, number in row.items()) == 0 for row in rows)
                self.assertIs(accepts(("kept order", step, 2, relations, order), paper), told)
                seen[told] += 1
            for wrong in (plus(first, (((0,), ONE),)), plus(first, ((((0,) * (order + 2)), ONE),)), plus(first, (((2,) * (order + 1), ONE),))):
                self.check_refused(("kept order", step, 2, relations, order), wrong)
        self.assertGreater(min(seen), 5, seen)

    def test_the_letter_two(self):
        with_two = (nested((0, 2)),)
        self.check_refused(("kept order", LEAD, 2, with_two, 1), (((0, 1), ONE),))
        self.check_refused(("kept order", LEAD + ((2, NIL),), 2, (), 1), (((0, 1), ONE),))
        self.check_accepted(("kept order", THREE, 3, with_two, 1), (((0, 1), ONE),))
        self.check_accepted(("kept order", THREE, 3, with_two, 1), (((0, 1), ONE), ((2, 2), ONE)))
        self.check_refused(("kept order", THREE, 3, with_two, 1), (((0, 2), ONE),))
        self.check_refused(("kept order", THREE, 3, with_two, 1), (((0, 1), ONE), ((0, 2), ONE), ((2, 1), ONE)))
        for relations in (((),), (SWAP,) * 5, (UNIT,), [SWAP], SWAP, None):
            self.check_refused(("kept order", LEAD, 2, relations, 6), ())


class Swings(Case):
    def test_words(self):
        source = fixed_source(192)
        for _ in range(30):
            step, time = random_step(source, 2, source.randint(0, 4)), pair_of(Fraction(source.randint(1, 9), source.randint(1, 4)))
            told = swing_word(step, time)
            for word in ("stays", "creeps", "grows", "", "Stays", "stays ", b"stays", None):
                self.assertIs(accepts(("swings", step, time, word), ()), word == told)
            self.check_refused(("swings", step, time, told), (0,))
        for time in (NIL, LESS, (2, 2), 1, None, (1, 0)):
            self.check_refused(("swings", LEAP, time, "stays"), ())
        for step in (THREE, LEAP + ((2, NIL),)):
            for word in ("stays", "creeps", "grows"):
                self.check_refused(("swings", step, ONE, word), ())

    def test_bounds(self):
        for step in (LEAD, LEAP, TOUCHING, in_parts(LEAP, (HALF, HALF)), FOURTH):
            for many in (1, 10, 10**6):
                near, is_just = swing_bound(step, many)
                for told in (near - 1, near, near + 1):
                    for just in (True, False):
                        self.assertIs(accepts(("bound", step, many, (told, just)), ()), (told, just) == (near, is_just))
                self.check_refused(("bound", step, many, (near,)), ())
                self.check_refused(("bound", step, many, [near, is_just]), ())
                self.check_refused(("bound", step, many, (near, is_just)), UNIT)
        for many in (0, -1, 10**6 + 1, None, (1,)):
            self.check_refused(("bound", LEAP, many, (0, True)), ())
        for step in ((), ((0, ONE),), THREE, LEAP + ((2, NIL),)):
            for near in ((0, True), (0, False), (2, True)):
                self.check_refused(("bound", step, 1, near), ())


if __name__ == "__main__":
    unittest.main()
