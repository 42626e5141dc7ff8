"""Whole sessions: what the modules tell of one step has to agree, as the document says."""

import unittest
from fractions import Fraction

from flowpieces.brackets import coordinates, is_of_flow, nested
from flowpieces.certificates import (
    certify_bound,
    certify_brackets,
    certify_flow,
    certify_followed,
    certify_kept,
    certify_lag,
    certify_likeness,
    certify_order,
    certify_parts,
    certify_processed,
    certify_swing,
)
from flowpieces.checker import accepts
from flowpieces.consoles import Console
from flowpieces.errors import Broken, InUse, UnknownName
from flowpieces.forwards import has_back, lag_of, miss_with, order_with
from flowpieces.orders import change_followed, miss_of, order_of, step_following
from flowpieces.parts import in_parts, raises, raises_twice
from flowpieces.processed import leading_in, leading_step, processed_order
from flowpieces.relations import are_weights, kept_order, kept_weights, vanishes, ways, weights
from flowpieces.steps import are_alike, is_symmetric, joined, mirrored, series_of, short_form, timed, undoing, whole_of
from flowpieces.swings import kept_form, stray, swing_at, swing_bound, swing_order, swing_word
from flowpieces.tables import flow_table, shifts, step_table
from flowpieces.words import exponential, part_of, plus, product, times_number
from flowpieces.workshops import Workshop
from samples import HALF, LESS, NIL, ONE, fixed_source, random_step

SIXTHS = (HALF, (2, 3), (5, 6), LESS)
STRAIGHT = (((0,), ONE), ((1,), ONE))
SWAP, LOW, HIGH = nested((0, 1)), nested((0, 0, 1)), nested((0, 1, 1))


class OneStepThroughAll(unittest.TestCase):
    def test_from_the_letters_to_the_checker(self):
        shop = Workshop()
        console = Console(shop)
        self.assertEqual(console.say("step half: 0:1/2 1:1/2"), "done")
        half = shop.named("half")
        leap = joined(half, mirrored(half))
        shop.put("leap", leap)
        self.assertEqual(console.say("short leap"), "0:1/2 1:1/1 0:1/2")
        self.assertEqual(console.say("order leap"), str(order_of(leap, 2)))
        shop.wish(("symmetric", "leap"))
        shop.wish(("forward", "leap", 0))
        shop.wish(("order", "leap", 2, 2))
        self.assertEqual((order_of(leap, 2), lag_of(leap)), (2, (1, 24)))
        self.assertEqual(coordinates(miss_of(leap, 2)), (((0, 0, 1), (-1, 24)), ((0, 1, 1), (1, 12))))
        # Raised by parts it has a piece back, so it cannot take leap's place.
        raised = in_parts(leap, SIXTHS)
        self.assertIs(raises(SIXTHS, 2), True)
        self.assertEqual((order_of(raised, 2), lag_of(raised)), (3, NIL))
        self.assertIs(has_back(raised, 0) and has_back(raised, 1), True)
        with self.assertRaises(Broken) as caught:
            shop.put("leap", raised)
        self.assertEqual(caught.exception.index, 1 if is_symmetric(raised) else 0)
        shop.put("raised", raised)
        # Behind another step it is of a lower order, but not processed.
        ahead = ((0, (1, 3)), (1, (-2, 5)))
        behind = joined(joined(ahead, raised), undoing(ahead))
        self.assertLess(order_of(behind, 2), 3)
        self.assertEqual(processed_order(behind, 2), processed_order(raised, 2))
        leading = leading_step(behind, 2)
        back = joined(joined(leading, behind), undoing(leading))
        self.assertGreaterEqual(order_of(back, 2), 3)
        shop.put("back", back)
        shop.wish(("order", "back", 2, 3))
        # Where both brackets of three letters are nought leap is right at all lengths.
        self.assertEqual(kept_order(leap, 2, (LOW, HIGH)), 6)
        self.assertIsNone(kept_weights(leap, 2, (LOW, HIGH)))
        self.assertIs(vanishes((LOW, HIGH), miss_of(leap, 2), 3), True)
        # On the swing it stays up to 2.
        self.assertEqual(swing_bound(leap, 1), (2, True))
        self.assertEqual([swing_word(leap, time) for time in (ONE, (2, 1), (3, 1))], ["stays", "creeps", "grows"])
        self.assertEqual(swing_order(leap), 2)
        for pair in (
            certify_likeness(leap, short_form(leap)), certify_likeness(leap, raised), certify_order(raised, 2),
            certify_brackets(miss_of(leap, 2)), certify_flow(series_of(raised, 4), 4), certify_followed(back, 4),
            certify_lag(raised), certify_parts(SIXTHS, 2), certify_parts(SIXTHS, 3), certify_processed(behind, 2),
            certify_kept(leap, 2, (LOW, HIGH)), certify_kept(behind, 2, (LOW,)), certify_swing(leap, ONE),
            certify_bound(raised, 1000),
        ):
            self.assertIs(accepts(*pair), True)
        self.assertEqual(console.say("names"), "back half leap raised")
        self.assertEqual(console.say("alike leap raised"), "no")
        with self.assertRaises(InUse):
            console.say("drop back")
        for _ in range(4):
            console.say("undo")
        self.assertEqual(console.say("names"), "half leap")

    def test_a_trial_with_a_console(self):
        shop = Workshop()
        console = Console(shop)
        console.say("step lead: 0:1/1 1:1/1")
        shop.wish(("order", "lead", 2, 1))

        def spoil(held):
            Console(held).say("step lead: 1:1/1 0:1/1")
            held.lift(0)
            held.put("lead", ())
            return held.named("nobody")

        with self.assertRaises(UnknownName):
            shop.tried(spoil)
        self.assertEqual((console.say("show lead"), shop.wishes, len(shop)), ("0:1/1 1:1/1", (("order", "lead", 2, 1),), 2))


class WhatAgrees(unittest.TestCase):
    def steps(self):
        source = fixed_source(211)
        leap = ((0, HALF), (1, ONE), (0, HALF))
        steps = [(), ((0, ONE), (1, ONE)), leap, in_parts(leap, SIXTHS), step_following(STRAIGHT, 4)]
        steps += [joined(joined(((1, HALF),), step), ((1, (-1, 2)),)) for step in steps[1:4]]
        return steps + [random_step(source, 2, 4) for _ in range(3)]

    def test_orders_misses_and_changes(self):
        for step in self.steps():
            order, miss = order_of(step, 2), miss_of(step, 2)
            for length in range(1, 5):
                gap = plus(series_of(step, length), times_number(whole_of(2, length), LESS))
                self.assertIs(gap == (), length <= order)
                self.assertIs(change_followed(step, length) == STRAIGHT, length <= order)
                if length == order + 1:
                    self.assertEqual(gap, miss)
                    self.assertEqual(part_of(gap, length), miss)
            self.assertLessEqual(order, processed_order(step, 2))
            self.assertLessEqual(order, kept_order(step, 2, (LOW,)))
            self.assertLessEqual(order, swing_order(step))
            self.assertEqual(order, order_with(step, ()))
            self.assertEqual(miss, miss_with(step, SWAP))
            self.assertEqual(order, kept_order(step, 2, ()))
            if 2 <= order:
                self.assertIs(lag_of(step) == NIL, order > 2)

    def test_the_miss_tells_how_tables_differ(self):
        for step in self.steps():
            order, miss = order_of(step, 2), miss_of(step, 2)
            for word, number in miss or ():
                pair = shifts(word, 2)
                ahead, behind = step_table(step, pair, ONE), flow_table(pair, ONE)
                self.assertEqual(Fraction(*ahead[0][-1]) - Fraction(*behind[0][-1]), Fraction(*number))
                self.assertEqual([row[:-1] for row in ahead], [row[:-1] for row in behind])
                self.assertEqual(len(word), order + 1)

    def test_weights_tell_how_tables_that_keep_relations_differ(self):
        for step in self.steps():
            for relations in ((LOW,), (SWAP,), (HIGH, nested((0, 0, 0, 1)))):
                kept, telling = kept_order(step, 2, relations), kept_weights(step, 2, relations)
                gap = plus(series_of(step, 6), times_number(whole_of(2, 6), LESS))
                self.assertIs(vanishes(relations, gap, max(kept, 1)), kept > 0)
                if telling is None:
                    self.assertIsNotNone(ways(relations, gap, 6))
                    self.assertIsNone(weights(relations, gap, 6))
                else:
                    self.assertIs(are_weights(relations, gap, kept + 1, telling), True)
                    self.assertEqual(len(weights(relations, gap, 6)[0][0]), kept + 1)

    def test_leading_ins_and_series(self):
        for step in self.steps():
            if order_of(step, 2) == 0:
                continue
            order, leading = processed_order(step, 2), leading_in(step, 2)
            ahead, after = exponential(leading, 6), exponential(times_number(leading, LESS), 6)
            found = product(product(ahead, series_of(step, 6), 6), after, 6)
            self.assertIs(is_of_flow(found, 6), True)
            for length in range(1, 7):
                same = part_of(found, length) == part_of(whole_of(2, 6), length)
                self.assertIs(same, length <= order) if length <= order + 1 else None

    def test_symmetric_steps_and_parts(self):
        ends = ((1, 4), (1, 3), (5, 12), (-1, 2), (-1, 2), (5, 12), (1, 3), (1, 4))
        for step in self.steps():
            both = joined(timed(step, HALF), mirrored(timed(step, HALF)))
            self.assertIs(is_symmetric(both), True)
            self.assertIn(order_of(both, 2), (0, 2, 4, 6))
            if order_of(both, 2) == 2:
                self.assertIs(raises_twice(ends, 2), True)
                self.assertGreaterEqual(order_of(in_parts(both, ends), 2), 4)

    def test_swings_and_likeness(self):
        for step in self.steps():
            if any(letter == 2 for letter, _ in step):
                continue
            other = joined(step, ((0, NIL),))
            self.assertIs(are_alike(step, other), True)
            self.assertEqual(swing_at(step, HALF), swing_at(other, HALF))
            if order_of(step, 2) >= 1:
                near, _ = swing_bound(step, 100)
                self.assertEqual(swing_word(step, (1, 100)), "stays")
                self.assertGreater(near, 0)
                self.assertEqual(kept_form(step, (1, 100))[0], ONE)
                self.assertGreaterEqual(stray(step, (1, 100), 10)[0], 10)
                self.assertEqual(swing_bound(in_parts(step, (HALF, HALF)), 100), swing_bound(step, 200))


if __name__ == "__main__":
    unittest.main()
