"""Sums of brackets and sums of a flow: points 3 to 5, 14 and 15 and flowpieces/brackets.py."""

import unittest
from fractions import Fraction
from itertools import combinations

from flowpieces.brackets import (
    breaking_words,
    by_coordinates,
    coordinates,
    halves,
    is_bracket_sum,
    is_least,
    is_of_flow,
    lead_of,
    least_words,
    nested,
    shuffles,
)
from flowpieces.errors import InvalidLength, InvalidLetters, InvalidSum, InvalidWord, NotLeast
from flowpieces.orders import change_followed, miss_of
from flowpieces.steps import series_of, whole_of
from flowpieces.words import bracket, exponential, is_sum, logarithm, number_at, part_of, plus, times_number
from plain import all_words, as_dict, as_sum, plain_product
from samples import (
    HALF,
    LESS,
    NO_LENGTHS,
    NO_LETTERS,
    NO_SUMS,
    NO_WORDS,
    ONE,
    WIDE,
    check_refused,
    fixed_source,
    pair_of,
    random_fraction,
    random_number,
    random_step,
    random_sum,
)

LEAP = ((0, HALF), (1, ONE), (0, HALF))
SWAP = (((0, 1), ONE), ((1, 0), LESS))
UNIT = (((), ONE),)
STRAIGHT = (((0,), ONE), ((1,), ONE))
TOO_LONG = (((0,) * 7, ONE),)
HIGH_SUMS = (TOO_LONG, (((0,), ONE), ((2,) * 12, ONE)), (((0, 1, 0, 1, 0, 1, 0), ONE), ((1, 0, 1, 0, 1, 0, 1), LESS)))


def plain_is_least(word):
    return bool(word) and all(word < word[at:] for at in range(1, len(word)))


def plain_bracket(first, second):
    made = plain_product(first, second, 12)
    for word, number in plain_product(second, first, 12).items():
        made[word] = made.get(word, 0) - number
    return {word: number for word, number in made.items() if number}


def plain_nested(word):
    """By the halves as the longest end that is least, which is another way to find them."""
    if len(word) == 1:
        return {word: Fraction(1)}
    at = min(at for at in range(1, len(word)) if plain_is_least(word[at:]))
    return plain_bracket(plain_nested(word[:at]), plain_nested(word[at:]))


def plain_left(word):
    made = {word[:1]: Fraction(1)}
    for letter in word[1:]:
        made = plain_bracket(made, {(letter,): Fraction(1)})
    return made


def plain_lead(terms):
    made = {}
    for word, number in as_dict(terms).items():
        for other, many in plain_left(word).items():
            made[other] = made.get(other, 0) + number * many
    return as_sum(made)


def plain_shuffles(word, other):
    """Each choice of places for the letters of the first word makes one word."""
    made, many = {}, len(word) + len(other)
    for places in combinations(range(many), len(word)):
        first, rest = iter(word), iter(other)
        shuffled = tuple(next(first if at in places else rest) for at in range(many))
        made[shuffled] = made.get(shuffled, 0) + Fraction(1)
    return made


def is_shuffled(terms, word, other):
    numbers = as_dict(terms)
    told = sum(many * numbers.get(made, 0) for made, many in plain_shuffles(word, other).items())
    return numbers.get(word, 0) * numbers.get(other, 0) == told


def random_brackets(source, letters, degree):
    """A sum of brackets of letters, nested in whatever way, by brackets, sums and multiples."""
    total = ()
    for _ in range(4):
        parts = [(((source.randrange(letters),), ONE),) for _ in range(source.randint(1, degree))]
        while len(parts) > 1:
            first = parts.pop(source.randrange(len(parts)))
            second = parts.pop(source.randrange(len(parts)))
            parts.append(as_sum(plain_bracket(as_dict(first), as_dict(second))))
        total = plus(total, times_number(parts[0], random_fraction(source)))
    return total


def all_least(letters, most):
    return [word for word in all_words(letters, most, 1) if plain_is_least(word)]


class Examples(unittest.TestCase):
    def test_least_words(self):
        self.assertIs(is_least((0, 0, 1)), True)
        self.assertIs(is_least((0, 1, 0)), False)
        self.assertIs(is_least(()), False)
        self.assertEqual(least_words(2, 3), ((0, 0, 1), (0, 1, 1)))
        self.assertEqual(halves((0, 0, 1)), ((0,), (0, 1)))
        self.assertEqual(halves((0, 1, 1)), ((0, 1), (1,)))
        with self.assertRaises(NotLeast):
            halves((1,))

    def test_nested(self):
        self.assertEqual(nested((0, 1)), SWAP)
        self.assertEqual(nested((0, 0, 1)), (((0, 0, 1), (1, 1)), ((0, 1, 0), (-2, 1)), ((1, 0, 0), (1, 1))))
        self.assertEqual(nested((0, 1, 1)), (((0, 1, 1), (1, 1)), ((1, 0, 1), (-2, 1)), ((1, 1, 0), (1, 1))))

    def test_sums(self):
        lone = (((0, 1), ONE),)
        self.assertEqual(lead_of((((0, 1), HALF),)), (((0, 1), (1, 2)), ((1, 0), (-1, 2))))
        self.assertIs(is_bracket_sum(SWAP), True)
        self.assertIs(is_bracket_sum(lone), False)
        self.assertEqual(coordinates(miss_of(LEAP, 2)), (((0, 0, 1), (-1, 24)), ((0, 1, 1), (1, 12))))
        self.assertIsNone(coordinates(lone))
        self.assertEqual(by_coordinates(lone), SWAP)

    def test_flows(self):
        self.assertEqual(shuffles((0,), (1, 0)), (((0, 1, 0), (1, 1)), ((1, 0, 0), (2, 1))))
        self.assertIs(is_of_flow(whole_of(2, 2), 2), True)
        self.assertIs(is_of_flow(UNIT + (((0,), ONE),), 1), True)
        self.assertEqual(breaking_words(UNIT + (((0,), ONE),), 2), ((0,), (0,)))
        self.assertEqual(breaking_words((), 1), ((), ()))


class LeastWords(unittest.TestCase):
    def test_all_short_words(self):
        for word in all_words(3, 6):
            self.assertIs(is_least(word), plain_is_least(word))

    def test_edges(self):
        for word in ((0,), (1,), (2,), (0, 2), (0,) * 11 + (1,), (0, 1) * 5 + (0, 2), (0, 1, 0, 1, 1)):
            self.assertIs(is_least(word), True)
        for word in ((), (0, 0), (1, 0), (2, 2), (0, 1, 0, 1), (0,) * 12, (0, 1) * 6, (1, 1, 2, 0), (0, 1, 0)):
            self.assertIs(is_least(word), False)
        self.assertIs(is_least(word=(0,)), True)

    def test_how_many(self):
        for letters, counts in ((2, (2, 1, 2, 3, 6, 9)), (3, (3, 3, 8, 18))):
            for length, many in enumerate(counts, 1):
                found = least_words(letters, length)
                self.assertEqual(len(found), many)
                told = [word for word in all_words(letters, length, length) if plain_is_least(word)]
                self.assertEqual(found, tuple(sorted(told)))
                self.assertEqual(least_words(length=length, letters=letters), found)

    def test_halves(self):
        for word in all_least(3, 7) + [(0,) * 11 + (1,), (0, 0, 1) * 3 + (0, 1, 1), (0, 1) * 5 + (0, 2)]:
            if len(word) == 1:
                continue
            first, last = halves(word)
            self.assertEqual(first + last, word)
            self.assertEqual(last, min(word[at:] for at in range(1, len(word))))
            self.assertTrue(is_least(first) and is_least(last))
            self.assertEqual(halves(word=word), (first, last))

    def test_no_halves(self):
        for word in ((), (0,), (2,), (0, 0), (1, 0), (0, 1, 0), (0, 1) * 6, (1, 1, 2, 0)):
            with self.assertRaises(NotLeast):
                halves(word)
            with self.assertRaises(NotLeast):
                halves(word=word)


class NestedBrackets(unittest.TestCase):
    def test_all_least_words(self):
        for word in all_least(3, 6):
            told = nested(word)
            self.assertEqual(told, as_sum(plain_nested(word)))
            self.assertEqual(nested(word=word), told)
            # It begins with its word; all others are greater and have each letter as often.
            self.assertEqual(told[0], (word, ONE))
            self.assertTrue(all(sorted(other) == sorted(word) for other, _ in told))
            if 1 < len(word) <= (4 if 2 in word else 6):
                first, last = halves(word)
                self.assertEqual(bracket(nested(first), nested(last), len(word)), told)
            self.assertIs(is_bracket_sum(told), True)

    def test_letters(self):
        for letter in range(3):
            self.assertEqual(nested((letter,)), (((letter,), (1, 1)),))

    def test_no_least_words(self):
        for word in ((), (0, 0), (1, 0), (2, 2), (0, 1, 0, 1), (0,) * 6):
            with self.assertRaises(NotLeast):
                nested(word)


class Leads(unittest.TestCase):
    def test_left_brackets(self):
        for word in all_words(3, 4, 1) + [(0, 1, 0, 0, 1, 1), (2, 0, 1, 1, 0, 2)]:
            self.assertEqual(lead_of(((word, (2, 3)),)), plain_lead(((word, (2, 3)),)))

    def test_sums(self):
        source = fixed_source(51)
        for _ in range(8):
            terms = random_sum(source, 3, 6, 40, least=1)
            self.assertEqual(lead_of(terms), plain_lead(terms))
            self.assertEqual(lead_of(terms=terms), plain_lead(terms))
            self.assertIs(is_bracket_sum(lead_of(terms)), True)

    def test_edges(self):
        self.assertEqual(lead_of(()), ())
        self.assertEqual(lead_of((((2,), WIDE),)), (((2,), WIDE),))
        self.assertEqual(lead_of((((0, 0), ONE),)), ())
        self.assertEqual(lead_of((((0, 1), ONE), ((1, 0), ONE))), ())


class SumsOfBrackets(unittest.TestCase):
    def test_those_that_come_by_brackets(self):
        source = fixed_source(52)
        for letters in (2, 3):
            for _ in range(12):
                terms = random_brackets(source, letters, 6)
                self.assertIs(is_bracket_sum(terms), True)
                # One more number at one word makes another sum, of which this does not hold.
                word = source.choice(all_words(letters, 6, 2))
                changed = plus(terms, ((word, random_number(source)),))
                self.assertIs(is_bracket_sum(terms=changed), False)
                self.assertIsNone(coordinates(changed))

    def test_by_the_left_brackets(self):
        source = fixed_source(53)
        for _ in range(40):
            terms = random_sum(source, 2, 3, 4, least=1)
            told = all(
                lead_of(part_of(terms, length)) == times_number(part_of(terms, length), (length, 1))
                for length in range(1, 4)
            )
            self.assertIs(is_bracket_sum(terms), told)

    def test_edges(self):
        for terms in ((), (((2,), WIDE),), STRAIGHT, SWAP, plus(SWAP, STRAIGHT)):
            self.assertIs(is_bracket_sum(terms), True)
        for terms in (UNIT, UNIT + STRAIGHT, UNIT + SWAP, (((0, 0), ONE),), (((1, 0), ONE),),
                      (((0, 1), ONE), ((1, 0), ONE)), (((0, 1), ONE), ((1, 0), LESS), ((1, 1), ONE)),
                      (((0, 1), WIDE), ((1, 0), pair_of(1 / Fraction(*WIDE)))), (((1,) * 6, ONE),)):
            self.assertIs(is_bracket_sum(terms), False)
            self.assertIsNone(coordinates(terms))

    def test_coordinates_there_and_back(self):
        source = fixed_source(54)
        words = all_least(3, 6)
        for many in (0, 1, 3, 30, len(words)):
            chosen = sorted(source.sample(words, many), key=lambda word: (len(word), word))
            told = tuple((word, random_number(source)) for word in chosen)
            terms = by_coordinates(told)
            total = {}
            for word, number in as_dict(told).items():
                for other, factor in plain_nested(word).items():
                    total[other] = total.get(other, 0) + number * factor
            self.assertEqual(terms, as_sum(total))
            self.assertEqual(by_coordinates(terms=told), terms)
            self.assertEqual(coordinates(terms), told)
            self.assertEqual(coordinates(terms=terms), told)
            self.assertIs(is_bracket_sum(terms), True)

    def test_coordinates_of_any_sum_of_brackets(self):
        source = fixed_source(55)
        for _ in range(12):
            terms = random_brackets(source, 3, 6)
            told = coordinates(terms)
            self.assertTrue(is_sum(told) and all(is_least(word) for word, _ in told))
            self.assertEqual(by_coordinates(told), terms)

    def test_nought_by_the_numbers_at_least_words(self):
        source = fixed_source(56)
        for _ in range(8):
            terms = random_brackets(source, 2, 6)
            at_least_words = [number_at(terms, word) for word in all_least(2, 6)]
            self.assertEqual(terms == (), not any(number[0] for number in at_least_words))

    def test_wide_numbers_at_many_words(self):
        source = fixed_source(57)
        words = [word for word in all_least(3, 6) if source.random() < 0.4]
        told = tuple((word, pair_of(Fraction(source.randrange(1, 10**399), source.randrange(1, 10**399))))
                     for word in words)
        terms = by_coordinates(told)
        self.assertEqual(coordinates(terms), told)
        self.assertIs(is_bracket_sum(plus(terms, (((1, 0), WIDE),))), False)
        self.assertIs(is_bracket_sum(change_followed(((0, WIDE), (1, WIDE), (0, ONE)), 6)), True)


class Shuffles(unittest.TestCase):
    def test_by_places(self):
        source = fixed_source(58)
        for many in range(9):
            for first in range(many + 1):
                word = tuple(source.randrange(3) for _ in range(first))
                other = tuple(source.randrange(3) for _ in range(many - first))
                told = as_sum(plain_shuffles(word, other))
                self.assertEqual(shuffles(word, other), told)
                self.assertEqual(shuffles(other=word, word=other), told)

    def test_edges(self):
        self.assertEqual(shuffles((), ()), UNIT)
        self.assertEqual(shuffles((), (2, 1)), (((2, 1), ONE),))
        self.assertEqual(shuffles((0,) * 8, ()), (((0,) * 8, ONE),))
        self.assertEqual(shuffles((0,) * 4, (0,) * 4), (((0,) * 8, (70, 1)),))
        self.assertEqual(len(shuffles((0,) * 4, (1,) * 4)), 70)


class SumsOfAFlow(unittest.TestCase):
    def check_breaking(self, terms, length):
        """Whether the told words break it; None is told for none alone."""
        found = breaking_words(terms, length)
        self.assertEqual(breaking_words(length=length, terms=terms), found)
        self.assertIs(is_of_flow(terms, length), found is None)
        self.assertIs(is_of_flow(length=length, terms=terms), found is None)
        letters = range(3 if any(2 in word for word, _ in terms) else 2)
        if number_at(terms, ()) != ONE:
            self.assertEqual(found, ((), ()))
        elif found is None:
            words = all_words(len(letters), length - 1, 1)
            for word in words:
                for other in words:
                    self.assertTrue(len(word + other) > length or is_shuffled(terms, word, other))
        else:
            word, other = found
            self.assertTrue(word and other and len(word + other) <= length)
            self.assertFalse(is_shuffled(terms, word, other))
        return found

    def test_series_are_of_a_flow(self):
        source = fixed_source(59)
        for letters, most in ((2, 4), (3, 3)):
            for length in range(1, most + 1):
                for terms in (series_of(random_step(source, letters, 5), length), whole_of(letters, length), UNIT):
                    self.assertIsNone(self.check_breaking(terms, length))
        for terms, length in ((series_of(LEAP, 6), 6), (whole_of(2, 6), 6), (whole_of(3, 4), 4)):
            self.assertIs(is_of_flow(terms, length), True)

    def test_as_the_logarithm_tells(self):
        source = fixed_source(60)
        for letters, most in ((2, 5), (3, 4)):
            for _ in range(10):
                length = source.randint(1, most)
                terms = exponential(random_brackets(source, letters, most), length)
                self.assertIs(is_of_flow(terms, length), True)
                word = source.choice(all_words(letters, most, 1))
                changed = plus(terms, ((word, random_number(source)),))
                for asked in range(1, length + 1):
                    told = is_bracket_sum(logarithm(changed, asked))
                    self.assertIs(self.check_breaking(changed, asked) is None, told)

    def test_longer_words_do_not_count(self):
        terms = UNIT + (((0,), ONE), ((0, 0), ONE))
        self.assertIsNone(self.check_breaking(terms, 1))
        self.assertEqual(self.check_breaking(terms, 2), ((0,), (0,)))
        self.assertIsNone(self.check_breaking(UNIT + (((0, 1, 0, 0, 1, 1), ONE),), 5))
        self.assertIsNotNone(self.check_breaking(UNIT + (((0, 1, 0, 0, 1, 1), ONE),), 6))
        self.assertIsNone(self.check_breaking(UNIT + (((0, 2), ONE), ((2, 0), LESS)), 3))
        self.assertIsNotNone(self.check_breaking(UNIT + (((0, 2), ONE), ((2, 0), LESS)), 4))

    def test_numbers_at_the_empty_word(self):
        for terms in ((), STRAIGHT, (((), LESS),), (((), (2, 1)), ((0,), ONE)), (((), HALF), ((2,), ONE))):
            self.assertEqual(self.check_breaking(terms, 1), ((), ()))

    def test_wide_numbers(self):
        terms = series_of(((0, WIDE), (1, (-7, 10**399 + 9)), (0, (10**399 + 9, 7))), 6)
        self.assertIs(is_of_flow(terms, 6), True)
        self.assertIsNotNone(self.check_breaking(plus(terms, (((0, 0, 1), (1, 10**399)),)), 3))


class Refusals(unittest.TestCase):
    def test_words(self):
        longer = [(0,) * 6 + (1,), (0,) * 12, (2,) * 7, (1, 0) * 4]
        check_refused(self, is_least, {"word": (0, 1)}, "word", NO_WORDS, InvalidWord)
        check_refused(self, halves, {"word": (0, 1)}, "word", NO_WORDS, InvalidWord)
        check_refused(self, nested, {"word": (0, 1)}, "word", list(NO_WORDS) + longer, InvalidWord)
        check_refused(self, shuffles, {"word": (0, 1), "other": (1,)}, "word", NO_WORDS, InvalidWord)
        check_refused(self, shuffles, {"word": (0, 1), "other": (1,)}, "other", NO_WORDS, InvalidWord)
        long = [(0,) * 7, (2,) * 12]
        check_refused(self, shuffles, {"word": (0, 1), "other": (1,)}, "other", long, InvalidWord)
        check_refused(self, shuffles, {"word": (0,) * 9, "other": (1,)}, "other", [(), (1,)], InvalidWord)

    def test_letters_and_lengths(self):
        check_refused(self, least_words, {"letters": 2, "length": 2}, "letters", NO_LETTERS, InvalidLetters)
        check_refused(self, least_words, {"letters": 2, "length": 2}, "length", NO_LENGTHS, InvalidLength)
        check_refused(self, least_words, {"letters": 3, "length": 2}, "length", NO_LENGTHS + (5, 6), InvalidLength)
        for function in (is_of_flow, breaking_words):
            for terms in (UNIT, STRAIGHT, UNIT + STRAIGHT, (((0,), (2, 1)),)):
                function(terms, 6)
                check_refused(self, function, {"terms": terms, "length": 2}, "length", NO_LENGTHS, InvalidLength)
            for terms in ((((2,), ONE),), UNIT + (((0, 1, 0, 1, 2, 0), ONE),)):
                function(terms, 4)
                wrong = NO_LENGTHS + (5, 6)
                check_refused(self, function, {"terms": terms, "length": 2}, "length", wrong, InvalidLength)

    def test_sums(self):
        wrong = NO_SUMS + HIGH_SUMS
        for function in (is_bracket_sum, coordinates):
            check_refused(self, function, {"terms": SWAP}, "terms", wrong, InvalidSum)
        with_empty = (UNIT, UNIT + STRAIGHT, (((), LESS), ((0, 1), ONE)))
        check_refused(self, lead_of, {"terms": SWAP}, "terms", wrong + with_empty, InvalidSum)
        not_least = with_empty + (SWAP, (((0, 0), ONE),), (((0,), ONE), ((2, 1), ONE)), (((0, 1) * 3, ONE),))
        check_refused(self, by_coordinates, {"terms": STRAIGHT}, "terms", wrong + not_least, InvalidSum)
        for function in (is_of_flow, breaking_words):
            check_refused(self, function, {"terms": UNIT, "length": 2}, "terms", wrong, InvalidSum)

    def test_least_is_told_last(self):
        check_refused(self, nested, {"word": (0, 1)}, "word", [(1,) * 7, (1, 0) * 6], InvalidWord)
        check_refused(self, halves, {"word": (0, 1)}, "word", [(1, 0, 3), [1, 0]], InvalidWord)

    def test_the_first_wrong_argument_is_refused(self):
        check_refused(self, shuffles, {"word": None, "other": None}, "word", [7], InvalidWord)
        check_refused(self, least_words, {"letters": None, "length": None}, "letters", [7], InvalidLetters)
        for function in (is_of_flow, breaking_words):
            check_refused(self, function, {"terms": None, "length": None}, "terms", [7, TOO_LONG], InvalidSum)


if __name__ == "__main__":
    unittest.main()
