"""Sums and steps reckoned once more in the plainest way, over Python's own fractions."""

from fractions import Fraction
from itertools import product as choices

from samples import pair_of


def as_dict(terms):
    return {word: Fraction(*number) for word, number in terms}


def as_sum(numbers):
    words = sorted(numbers, key=lambda word: (len(word), word))
    return tuple((word, pair_of(numbers[word])) for word in words if numbers[word])


def plain_product(first, second, length):
    found = {}
    for (word, number), (behind, factor) in choices(first.items(), second.items()):
        if len(word + behind) <= length:
            found[word + behind] = found.get(word + behind, 0) + number * factor
    return found


def plain_powers(terms, numbers, length):
    """The numbers times the powers of the sum, one power after the other."""
    power, found = {(): Fraction(1)}, {}
    for number in numbers:
        for word, factor in power.items():
            found[word] = found.get(word, 0) + number * factor
        power = plain_product(power, as_dict(terms), length)
    return as_sum(found)


def plain_exponential(terms, length):
    numbers = [Fraction(1)]
    for power in range(1, length + 1):
        numbers.append(numbers[-1] / power)
    return plain_powers(terms, numbers, length)


def plain_logarithm(terms, length):
    numbers = [Fraction(0)] + [Fraction((-1) ** (power + 1), power) for power in range(1, length + 1)]
    rest = tuple(pair for pair in terms if pair[0] != ())
    return plain_powers(rest, numbers, length)


def all_words(letters, most, least=0):
    return [word for length in range(least, most + 1) for word in choices(range(letters), repeat=length)]


def plain_whole(letters, length):
    terms = tuple(((letter,), (1, 1)) for letter in range(letters))
    return as_dict(plain_exponential(terms, length))


def plain_series(step, length, meanings=None):
    """The product of the exponentials of all pieces, as they come; a meaning stands in the place of its letter."""
    total = {(): Fraction(1)}
    for letter, number in step:
        terms = (meanings or {}).get(letter, (((letter,), (1, 1)),))
        times = {word: Fraction(*factor) * Fraction(*number) for word, factor in terms}
        total = plain_product(total, as_dict(plain_exponential(as_sum(times), length)), length)
    return total


def plain_order_and_miss(step, letters, meanings=None):
    """The order and the miss by all words up to the last length."""
    last = 6 if letters == 2 else 4
    series, whole = plain_series(step, last, meanings), plain_whole(letters, last)
    gaps = {word: series.get(word, 0) - whole[word] for word in whole}
    for length in range(1, last + 1):
        part = {word: gap for word, gap in gaps.items() if len(word) == length}
        if any(part.values()):
            return length - 1, as_sum(part)
    return last, None


def plain_rest(numbers, rows):
    """What is left of a sum when rows that begin with 1 are taken away from it."""
    rest, left = {word: number for word, number in numbers.items() if number}, {}
    while rest:
        lead = min(rest)
        factor = rest.pop(lead)
        if lead not in rows:
            left[lead] = factor
            continue
        for word, number in rows[lead].items():
            if word != lead:
                rest[word] = rest.get(word, 0) - factor * number
        rest = {word: number for word, number in rest.items() if number}
    return left


def plain_multiples(relations, letters, length):
    """Rows, each told by its first word, of which all sums of multiples of u r v of a length are made."""
    rows = {}
    for relation in relations:
        rest = length - len(relation[0][0])
        for many in range(rest + 1):
            for ahead, behind in choices(all_words(letters, many, many), all_words(letters, rest - many, rest - many)):
                left = plain_rest({ahead + word + behind: Fraction(*number) for word, number in relation}, rows)
                if left:
                    lead = min(left)
                    rows[lead] = {word: number / left[lead] for word, number in left.items()}
    return rows


def plain_vanishes(relations, terms, length):
    """Whether each part of a sum up to a length is a sum of multiples of u r v, by those with all three letters."""
    letters = 3 if any(2 in word for part in (*relations, terms) for word, _ in part) else 2
    for reached in range(length + 1):
        part = {word: Fraction(*number) for word, number in terms if len(word) == reached}
        if plain_rest(part, plain_multiples(relations, letters, reached)):
            return False
    return True
