"""Relations, and how good steps are where they are kept: points 3 to 6, 8 and 22 and flowpieces/relations.py."""

import unittest
from fractions import Fraction

from flowpieces.brackets import by_coordinates, least_words, nested
from flowpieces.errors import InvalidLength, InvalidLetters, InvalidRelations, InvalidStep, InvalidSum
from flowpieces.orders import miss_of, order_of, step_towards
from flowpieces.relations import (
    are_relations,
    are_weights,
    kept_order,
    kept_weights,
    vanishes,
    ways,
    weights,
)
from flowpieces.steps import series_of, undoing, whole_of
from flowpieces.tables import are_closed, flow_table, read_in, step_table
from flowpieces.words import is_sum, part_of, plus, times_number
from plain import as_dict, plain_multiples, plain_rest, plain_series, plain_vanishes, plain_whole
from samples import (
    HALF,
    LESS,
    NIL,
    NO_LENGTHS,
    NO_LETTERS,
    NO_STEPS,
    NO_SUMS,
    ONE,
    STRANGE,
    WIDE,
    check_refused,
    fixed_source,
    random_number,
    random_step,
    random_sum,
    with_each_place_changed,
)

LEAD, LEAP = ((0, ONE), (1, ONE)), ((0, HALF), (1, ONE), (0, HALF))
THREE = LEAD + ((2, ONE),)
SWAP, LOW, HIGH = nested((0, 1)), nested((0, 0, 1)), nested((0, 1, 1))
PLACES = (((0, 1, 1, 1), LESS), ((1, 0, 1, 1), (3, 1)), ((1, 1, 0, 1), (-3, 1)), ((1, 1, 1, 0), ONE))
SWAPS = (SWAP, nested((0, 2)), nested((1, 2)))
BOTH = (((0, 1), ONE), ((1, 0), ONE))
PUSHED = (((0, 1, 0), ONE), ((1, 0, 0), LESS))
NO_RELATIONS = STRANGE + NO_SUMS + tuple((value,) for value in NO_SUMS) + (
    ((),), (SWAP, ()), (((((0, 1), ONE),),)), SWAP, [SWAP], (SWAP, None), (SWAP,) * 5, ((((0,), ONE),),),
    (((((0,), ONE), ((1,), ONE))),), (plus(SWAP, LOW),), (plus(LOW, PLACES),), (nested((0, 0, 0, 0, 1)),),
    (BOTH,), (SWAP, BOTH), (((((), ONE),)),), ((((0, 0), ONE),),), (plus((((0,), ONE),), SWAP),), ([((0, 1), ONE)],),
    (list(SWAP),), (SWAP, [SWAP]),
)
NO_RELATIONS = tuple(value for value in NO_RELATIONS if type(value) is not tuple or len(value) > 0)
LAST = {2: 6, 3: 4}


def random_relation(source, letters):
    while True:
        length = source.choice((2, 3, 4))
        words = [word for word in least_words(letters, length) if source.random() < 0.6]
        if words:
            return by_coordinates(tuple((word, random_number(source)) for word in words))


def random_relations(source, letters):
    return tuple(random_relation(source, letters) for _ in range(source.randint(0, 4)))


def between(ahead, terms, behind):
    return tuple((ahead + word + behind, number) for word, number in terms)


def random_multiples(source, relations, letters, length):
    """A sum of multiples of u r v, no longer than the length."""
    found = ()
    for relation in relations:
        spare = length - len(relation[0][0])
        for _ in range(source.randint(0, 3) if spare >= 0 else 0):
            many = source.randint(0, spare)
            ahead = tuple(source.randrange(letters) for _ in range(source.randint(0, many)))
            behind = tuple(source.randrange(letters) for _ in range(many - len(ahead)))
            found = plus(found, times_number(between(ahead, relation, behind), random_number(source)))
    return found


def up_to(terms, length):
    return tuple(pair for pair in terms if len(pair[0]) <= length)


def make(telling, terms):
    numbers = as_dict(terms)
    return sum(Fraction(*number) * numbers.get(word, 0) for word, number in telling)


class Examples(unittest.TestCase):
    def test_them(self):
        self.assertIs(are_relations((SWAP, PLACES)), True)
        self.assertIs(are_relations(((),)), False)
        self.assertIs(are_relations(((((0, 1), ONE),),)), False)
        self.assertEqual(kept_order(LEAD, 2, ()), 1)
        self.assertEqual(kept_order(LEAD, 2, (SWAP,)), 6)
        self.assertEqual(kept_order(LEAP, 2, (PLACES,)), 2)
        self.assertEqual(kept_order(LEAP, 2, (LOW, HIGH)), 6)
        self.assertIs(vanishes((SWAP,), PUSHED, 3), True)
        self.assertIs(ways((SWAP,), PUSHED, 3) is None, False)
        self.assertIsNone(ways((LOW,), HIGH, 3))
        self.assertIsNone(weights((SWAP,), PUSHED, 3))
        self.assertIs(vanishes((LOW,), HIGH, 3), False)
        self.assertIs(are_weights((SWAP,), (((0, 1), ONE),), 2, BOTH), True)
        self.assertIs(are_weights((SWAP,), SWAP, 2, BOTH), False)
        self.assertIs(are_weights((SWAP,), ((((), ONE)),), 2, ((((), ONE)),)), True)
        self.assertIsNone(kept_weights(LEAD, 2, (SWAP,)))


class WhatRelationsAre(unittest.TestCase):
    def test_they_are(self):
        source = fixed_source(131)
        for value in (
            (), (SWAP,), (SWAP,) * 4, (LOW, HIGH, PLACES), SWAPS, (nested((0, 1, 2)),), (nested((0, 0, 0, 2)), SWAP),
            (times_number(SWAP, WIDE),), (times_number(PLACES, (-3, 7)), HIGH),
        ) + tuple(random_relations(source, letters) for letters in (2, 3) for _ in range(5)):
            self.assertIs(are_relations(value), True)
            self.assertIs(are_relations(value=value), True)

    def test_they_are_not(self):
        for value in NO_RELATIONS:
            self.assertIs(are_relations(value), False)
            self.assertIs(are_relations(value=value), False)
        for strange in STRANGE:
            for value in with_each_place_changed((SWAP,), strange):
                self.assertIs(are_relations(value), False)


class Sums(unittest.TestCase):
    def check_sum(self, relations, terms, length):
        """All that is told of one sum; tells whether it vanishes."""
        told = plain_vanishes(relations, terms, length)
        self.assertIs(vanishes(relations, terms, length), told)
        self.assertIs(vanishes(length=length, terms=terms, relations=relations), told)
        found, telling = ways(relations, terms, length), weights(relations, terms, length)
        self.assertEqual(ways(length=length, terms=terms, relations=relations), found)
        self.assertEqual(weights(length=length, terms=terms, relations=relations), telling)
        if told:
            self.check_ways(relations, terms, length, found)
            self.assertIsNone(telling)
        else:
            self.assertIsNone(found)
            self.check_weights(relations, terms, length, telling)
        return told

    def check_ways(self, relations, terms, length, found):
        self.assertIs(type(found), tuple)
        made = ()
        for ahead, index, behind, number in found:
            self.assertNotEqual(number, NIL)
            self.assertIn(index, range(len(relations)))
            self.assertLessEqual(len(ahead + relations[index][0][0] + behind), length)
            made = plus(made, times_number(between(ahead, relations[index], behind), number))
        self.assertEqual(made, up_to(terms, length))

    def check_weights(self, relations, terms, length, telling):
        self.assertIs(is_sum(telling), True)
        self.assertEqual(len({len(word) for word, _ in telling}), 1)
        reached = len(telling[0][0])
        self.assertLessEqual(reached, length)
        for row in plain_multiples(relations, 3 if reached < 5 else 2, reached).values():
            self.assertEqual(sum(Fraction(*number) * row.get(word, 0) for word, number in telling), 0)
        self.assertNotEqual(make(telling, terms), 0)
        self.assertIs(are_weights(relations, terms, length, telling), True)
        self.assertIs(are_weights(value=telling, length=length, terms=terms, relations=relations), True)

    def test_by_all_multiples(self):
        source = fixed_source(132)
        seen = [0, 0]
        for _ in range(90):
            letters = source.choice((2, 2, 3))
            relations = random_relations(source, letters)
            length = source.randint(1, LAST[letters])
            terms = random_multiples(source, relations, letters, length)
            if source.random() < 0.5:
                terms = plus(terms, random_sum(source, letters, length, 2))
            if source.random() < 0.3:
                terms = plus(terms, random_sum(source, letters, 8, 2, length + 1))
            seen[self.check_sum(relations, terms, length)] += 1
        self.assertGreater(min(seen), 20)

    def test_edges(self):
        one, far = (((), ONE),), (((0,) * 7, ONE), ((0, 1) * 6, HALF))
        for relations in ((), (SWAP,), (LOW, HIGH, PLACES, LOW), SWAPS):
            for length in (1, 2, 4):
                self.assertIs(self.check_sum(relations, (), length), True)
                self.assertIs(self.check_sum(relations, far, length), True)
                self.assertEqual(ways(relations, (), length), ())
                self.assertEqual(ways(relations, far, length), ())
                self.assertIs(self.check_sum(relations, one, length), False)
                self.assertIs(self.check_sum(relations, one + SWAP + far, length), False)
                self.assertEqual([len(word) for word, _ in weights(relations, one, length)], [0])
                self.assertIs(self.check_sum(relations, (((0,), WIDE),) + far, length), False)
        self.assertIs(self.check_sum((), SWAP, 1), True)
        self.assertIs(self.check_sum((), SWAP, 2), False)
        self.assertIs(self.check_sum((SWAP,), SWAP, 2), True)
        self.assertIs(self.check_sum((SWAP, SWAP, times_number(SWAP, (-3, 7))), SWAP, 2), True)

    def test_sums_that_vanish_by_several_relations(self):
        # 0 0 1 brackets and 0 1 1 brackets together leave nothing of length 4 but one bracket, nought in the end.
        for word in least_words(2, 4) + least_words(2, 5) + least_words(2, 6):
            self.assertIs(self.check_sum((LOW, HIGH), nested(word), len(word)), True)
            self.assertIs(self.check_sum((SWAP,), nested(word), len(word)), True)
        self.assertIs(self.check_sum((LOW,), nested((0, 1, 1, 1)), 4), False)
        self.assertIs(self.check_sum((LOW,), nested((0, 0, 1, 1)), 4), True)
        self.assertIs(self.check_sum((plus(LOW, HIGH),), plus(nested((0, 0, 0, 1)), nested((0, 0, 1, 1))), 4), True)
        self.assertIs(self.check_sum((plus(LOW, HIGH),), nested((0, 0, 1, 1)), 4), False)
        self.assertIs(self.check_sum((plus(LOW, HIGH), PLACES), nested((0, 0, 0, 1)), 4), True)
        self.assertIs(self.check_sum((plus(LOW, HIGH),), HIGH, 4), False)

    def test_the_letter_two(self):
        self.assertIs(self.check_sum((SWAP,), between((2,), SWAP, (2,)), 4), True)
        self.assertIs(self.check_sum((SWAP,), nested((0, 2)), 2), False)
        self.assertIs(self.check_sum(SWAPS, nested((0, 1, 0, 2)), 4), True)
        self.assertIs(self.check_sum((nested((0, 2)),), SWAP, 4), False)
        self.assertIs(self.check_sum((nested((1, 2)), nested((0, 2))), nested((0, 1, 2)), 3), True)
        self.assertIs(self.check_sum((SWAP,), (((2,), ONE),), 1), False)

    def test_wide_numbers(self):
        source = fixed_source(133)
        other = (10**399 + 9, 10**398 - 1)
        relation = by_coordinates((((0, 0, 1), WIDE), ((0, 1, 1), other)))
        terms = plus(times_number(between((0, 1), relation, (1,)), other), times_number(between((), relation, (1, 0, 1)), WIDE))
        self.assertIs(self.check_sum((relation,), terms, 6), True)
        self.assertIs(self.check_sum((relation, LOW), plus(terms, nested((0, 1, 1, 1, 1, 1))), 6), True)
        self.assertIs(self.check_sum((relation,), plus(terms, nested((0, 1, 1, 1, 1, 1))), 6), False)
        self.assertIs(self.check_sum((relation,), random_sum(source, 2, 6, 60, 6), 6), False)

    def test_closed_tables_that_keep_relations(self):
        # On tables that keep the relations a sum that vanishes stands for noughts.
        level = (NIL, ONE, HALF), (NIL, NIL, ONE), (NIL, NIL, NIL)
        twice = tuple(tuple((2 * number[0], number[1]) if number[1] % 2 else (number[0], 1) for number in row) for row in level)
        pair = (level, twice)
        self.assertIs(are_closed(pair), True)
        nought = ((NIL,) * 3,) * 3
        self.assertEqual(read_in(SWAP, pair), nought)
        self.assertEqual(read_in(PUSHED, pair), nought)
        self.assertEqual(step_table(LEAD, pair, WIDE), flow_table(pair, WIDE))


class WhatWeightsAre(unittest.TestCase):
    def test_by_all_multiples(self):
        source = fixed_source(134)
        seen = [0, 0]
        for _ in range(120):
            letters = source.choice((2, 2, 3))
            relations = random_relations(source, letters)
            length = source.randint(2, 4)
            terms = random_sum(source, letters, length, 4, length)
            telling = weights(relations, terms, length)
            if telling is None:
                continue
            reached = len(telling[0][0])
            value = plus(telling, random_sum(source, 3, reached, source.randint(0, 2), reached))
            rows = plain_multiples(relations, 3, reached).values()
            told = value != () and make(value, terms) != 0 and all(
                sum(Fraction(*number) * row.get(word, 0) for word, number in value) == 0 for row in rows
            )
            self.assertIs(are_weights(relations, terms, length, value), told)
            seen[told] += 1
        self.assertGreater(min(seen), 20, seen)

    def test_edges(self):
        terms = (((), HALF), ((0,), ONE), ((0, 1), ONE), ((0, 1, 1), LESS))
        for value, length, told in (
            ((), 2, False), ((((), WIDE),), 1, True), ((((), ONE), ((0,), ONE)), 2, False), ((((0,), LESS),), 1, True),
            ((((0,), LESS), ((2,), ONE)), 1, True), ((((1,), ONE),), 1, False), (BOTH, 2, True), (BOTH, 1, False),
            (SWAP, 2, False), (((((0, 1), ONE), ((1, 0), HALF))), 2, False), ((((0,), ONE), ((0, 1), ONE)), 2, False),
            (((((0, 1), ONE), ((0, 2), (5, 1)), ((1, 0), ONE))), 2, True),
            ((((0, 1, 1), ONE), ((1, 0, 1), ONE), ((1, 1, 0), ONE)), 3, True),
            ((((0, 1, 1), ONE), ((1, 0, 1), ONE), ((1, 1, 0), ONE)), 2, False),
            ((((0, 1, 1), ONE), ((1, 0, 1), ONE), ((1, 1, 0), HALF)), 3, False),
            ((((0, 1) * 6, ONE),), 4, False), ((((2,) * 7, ONE),), 4, False),
        ):
            self.assertIs(are_weights((SWAP,), terms, length, value), told, value)
            self.assertIs(are_weights(value=value, length=length, relations=(SWAP,), terms=terms), told)
        # Beside [0, 1] between words with the letter 2 the value counts, too.
        self.assertIs(are_weights((SWAP,), (((2, 0, 1), ONE),), 3, (((2, 0, 1), ONE),)), False)
        self.assertIs(are_weights((SWAP,), (((2, 0, 1), ONE),), 3, (((2, 0, 1), ONE), ((2, 1, 0), ONE))), True)
        self.assertIs(are_weights((SWAP,), BOTH, 2, (((0, 1), ONE), ((1, 0), ONE), ((2, 2), ONE))), True)
        self.assertIs(are_weights((), SWAP, 6, (((0, 1), ONE),)), True)
        self.assertIs(are_weights((), SWAP, 6, (((0, 2), ONE),)), False)

    def test_values_of_any_kind(self):
        for value in NO_SUMS:
            self.assertIs(are_weights((SWAP,), BOTH, 2, value), False)
            self.assertIs(are_weights(relations=(), terms=(), length=6, value=value), False)
        for strange in STRANGE:
            for value in with_each_place_changed(BOTH, strange):
                self.assertIs(are_weights((), BOTH, 2, value), False)


class KeptOrders(unittest.TestCase):
    def check_kept(self, step, letters, relations):
        last = LAST[letters]
        order, telling = kept_order(step, letters, relations), kept_weights(step, letters, relations)
        self.assertEqual(kept_order(relations=relations, letters=letters, step=step), order)
        self.assertEqual(kept_weights(relations=relations, letters=letters, step=step), telling)
        series, whole = plain_series(step, last), plain_whole(letters, last)
        for length in range(1, min(order + 2, last + 1)):
            gap = {word: series.get(word, 0) - whole[word] for word in whole if len(word) == length}
            rows = plain_multiples(relations, letters, length)
            self.assertIs(plain_rest(gap, rows) == {}, length <= order)
        if order == last:
            self.assertIsNone(telling)
            return order
        self.assertIs(is_sum(telling), True)
        self.assertTrue(all(len(word) == order + 1 and max(word) < letters for word, _ in telling))
        self.assertNotEqual(sum(Fraction(*number) * gap[word] for word, number in telling), 0)
        for row in rows.values():
            self.assertEqual(sum(Fraction(*number) * row.get(word, 0) for word, number in telling), 0)
        return order

    def test_by_all_multiples(self):
        source = fixed_source(135)
        for _ in range(40):
            letters = source.choice((2, 2, 3))
            lead = tuple((letter, HALF) for letter in range(letters))
            step = source.choice((THREE[:letters], lead + lead[::-1], random_step(source, letters, 4)))
            self.check_kept(step, letters, random_relations(source, letters))

    def test_steps_of_greater_orders(self):
        for order in (3, 4, 5):
            step = step_towards((((0,), ONE), ((1,), ONE)), order)
            for relations, told in (((), order), ((SWAP,), 6), ((LOW, HIGH), 6)):
                self.assertEqual(self.check_kept(step, 2, relations), told)
            self.assertGreaterEqual(self.check_kept(step, 2, (PLACES,)), order)

    def test_without_relations_it_is_the_order(self):
        source = fixed_source(136)
        for letters in (2, 3):
            for step in ((), THREE[:letters], random_step(source, letters, 5), ((0, NIL),), ((0, ONE), (1, HALF))):
                self.assertEqual(self.check_kept(step, letters, ()), order_of(step, letters))
        self.assertEqual(self.check_kept(((0, HALF), (1, ONE), (0, HALF)), 3, ()), 0)

    def test_three_letters(self):
        self.assertEqual(self.check_kept(THREE, 3, SWAPS), 4)
        self.assertEqual(self.check_kept(THREE, 3, SWAPS[:2]), 1)
        self.assertEqual(self.check_kept(LEAP, 3, SWAPS), 0)
        self.assertEqual(self.check_kept(LEAD + ((2, HALF), (2, HALF)), 3, SWAPS + (nested((0, 0, 1, 2)),)), 4)
        self.assertEqual(self.check_kept(THREE, 3, tuple(nested(word) for word in least_words(3, 3)[:4])), 1)

    def test_wide_numbers(self):
        rest = (WIDE[1] - WIDE[0], WIDE[1])
        step = ((0, WIDE), (1, ONE), (0, rest))
        relation = by_coordinates((((0, 0, 1), WIDE), ((0, 1, 1), rest)))
        for relations in ((relation,), (SWAP,), (LOW, relation)):
            self.assertEqual(self.check_kept(step, 2, relations), 6 if relations == (SWAP,) else 1)
        miss = part_of(plus(series_of(LEAP, 3), times_number(whole_of(2, 3), LESS)), 3)
        self.assertEqual(miss, miss_of(LEAP, 2))
        # With its own miss as a relation a step gains an order.
        self.assertGreaterEqual(self.check_kept(LEAP, 2, (miss,)), 3)

    def test_behind_another_step(self):
        step = ((0, (-1, 2)),) + LEAD + undoing(((0, (-1, 2)),))
        self.assertEqual(self.check_kept(step, 2, ()), 2)
        self.assertEqual(self.check_kept(step, 2, (LOW, HIGH)), 6)


class Refusals(unittest.TestCase):
    def test_sums_with_relations(self):
        for function, more in ((vanishes, {}), (ways, {}), (weights, {}), (are_weights, {"value": BOTH})):
            right = {"relations": (SWAP,), "terms": SWAP, "length": 2, **more}
            check_refused(self, function, right, "relations", NO_RELATIONS, InvalidRelations)
            check_refused(self, function, right, "terms", NO_SUMS, InvalidSum)
            check_refused(self, function, right, "length", NO_LENGTHS, InvalidLength)
            for with_two in (
                {**right, "relations": (SWAP, nested((0, 2)))}, {**right, "terms": (((2,), ONE),)},
                {**right, "terms": (((0, 2) * 6, ONE),)}, {**right, "relations": (nested((1, 1, 1, 2)),), "terms": ()},
            ):
                check_refused(self, function, with_two, "length", NO_LENGTHS + (5, 6), InvalidLength)
                function(**{**with_two, "length": 4})
            function(**{**right, "length": 6})
            wrong = {**right, "relations": None, "terms": None, "length": None}
            check_refused(self, function, wrong, "relations", [7], InvalidRelations)
            check_refused(self, function, {**wrong, "relations": ()}, "terms", [7], InvalidSum)
        with_two = {"relations": (), "terms": SWAP, "length": 6, "value": (((0, 2), ONE),)}
        self.assertIs(are_weights(**with_two), False)

    def test_kept_orders(self):
        for function in (kept_order, kept_weights):
            right = {"step": LEAD, "letters": 2, "relations": (SWAP,)}
            check_refused(self, function, right, "step", NO_STEPS + (THREE, ((2, NIL),)), InvalidStep)
            check_refused(self, function, right, "letters", NO_LETTERS, InvalidLetters)
            with_two = (nested((0, 2)),), (SWAP, nested((0, 1, 2))), (nested((1, 1, 2)),)
            check_refused(self, function, right, "relations", NO_RELATIONS + with_two, InvalidRelations)
            check_refused(self, function, {**right, "letters": 3}, "relations", NO_RELATIONS, InvalidRelations)
            wrong = {"step": None, "letters": None, "relations": None}
            check_refused(self, function, wrong, "step", [7], InvalidStep)
            check_refused(self, function, {**wrong, "step": THREE}, "letters", [4], InvalidLetters)
            check_refused(self, function, {**wrong, "letters": 2}, "step", [THREE], InvalidStep)


if __name__ == "__main__":
    unittest.main()
