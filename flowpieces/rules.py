"""Rules for tables that keep relations: which sums are nought there, and what tells that one is not.

A rule is a sum of brackets over whole numbers that is nought with the relations; its lead is its
smallest word, a least one. There is one rule for each lead of such a sum, and no lead stands in another
rule of its length. A word that has no lead in it is normal. Tables that keep the relations cannot tell
a word with a lead in it from a sum of greater words; done again and again, this leads from each sum to
one of normal words alone, its normal form. It is nought just if the sum is one of multiples of u r v:
by the normal words the products of brackets without leads are counted, and there are as many of these
as sums differ with the relations (Poincare, Birkhoff, Witt; Lalonde and Ram 1995).
"""

from math import gcd, lcm

from flowpieces.brackets import bracket_numbers, words_least
from flowpieces.values import NIL, ONE, fraction_of, multiplied, total_of
from flowpieces.wholes import whole_bracket, whole_plus
from flowpieces.words import sum_of, words_of


class Rule:
    """A sum of brackets over whole numbers, and how much of which brackets of relations it is.

    The brackets are told by tuples: the index of a relation and the letters with which it is bracketed,
    one after the other. As long as rules are looked for, the sum is told by its numbers at least words alone.
    """

    def __init__(self, numbers, source):
        self.numbers = numbers
        self.source = source
        self.lead = min(list(numbers)) if numbers else None


def whole_relation(relation):
    """A relation times a number above 0, over whole numbers without a common divisor, and this number."""
    lower, upper = 1, 0
    for _, number in relation:
        lower = lcm(lower, number[1])
        upper = gcd(upper, number[0])
    return {word: number[0] // upper * (lower // number[1]) for word, number in relation}, fraction_of(lower, upper)


def plain_rule(numbers, source):
    """The rule of these numbers without their common divisors."""
    common = 0
    for number in numbers.values():
        common = gcd(common, number)
    if common > 1:
        numbers = {word: number // common for word, number in numbers.items()}
        source = {path: multiplied(number, (1, common)) for path, number in source.items()}
    return Rule(numbers, source)


def without_lead(rule, other):
    """A rule of which so much of another one is taken away that this one's lead is none of its words."""
    many = rule.numbers.get(other.lead, 0)
    if many == 0:
        return rule
    common = gcd(many, other.numbers[other.lead])
    times, less = other.numbers[other.lead] // common, -many // common
    numbers = whole_plus({word: times * number for word, number in rule.numbers.items()}, other.numbers, less)
    gathered = {path: [multiplied(number, (times, 1))] for path, number in rule.source.items()}
    for path, number in other.source.items():
        gathered.setdefault(path, []).append(multiplied(number, (less, 1)))
    return plain_rule(numbers, {path: total_of(worth) for path, worth in gathered.items()})


def rules_with(rules, rule):
    """The rules of one length with one more; None if it follows from them."""
    for other in rules:
        rule = without_lead(rule, other)
    if rule.lead is None:
        return None
    return [without_lead(other, rule) for other in rules] + [rule]


def at_least_words(numbers, letters, length):
    """The numbers of a sum at the least words of a length."""
    return {word: numbers[word] for word in words_least(letters, length) if word in numbers}


def by_least_words(numbers, letters, length):
    """The sum of brackets of a length that has these numbers at the least words."""
    rest, made = numbers, {}
    for word in words_least(letters, length):
        number = rest.get(word, 0)
        if number != 0:
            # The bracket of the word has greater words beside it alone.
            nested = bracket_numbers(word)
            made = whole_plus(made, nested, number)
            rest = whole_plus(rest, at_least_words(nested, letters, length), -number)
    return made


def longer_brackets(brackets, letters, length):
    """Brackets that are one shorter than a length, with each letter: pairs of a path and numbers."""
    return [
        (path + (letter,), whole_bracket(numbers, {(letter,): 1}, length))
        for path, numbers in brackets
        for letter in range(letters)
    ]


def rules_of(relations, letters, length, with_sources):
    """The rules of relations up to a length, by their leads; without sources they are found faster."""
    wholes = [whole_relation(relation)[0] for relation in relations]
    found = {}
    brackets = []
    for reached in range(2, length + 1):
        longer = longer_brackets(brackets, letters, reached)
        longer.extend([((index,), numbers) for index, numbers in enumerate(wholes) if len(min(numbers)) == reached])
        rules, brackets = [], []
        for path, numbers in longer:
            # The numbers at least words tell a sum of brackets, and are fewer.
            rule = Rule(at_least_words(numbers, letters, reached), {path: ONE} if with_sources else {})
            more = rules_with(rules, rule)
            # What follows from other brackets does so with each letter, too.
            if more is not None:
                rules = more
                brackets.append((path, numbers))
        for rule in rules:
            found[rule.lead] = Rule(by_least_words(rule.numbers, letters, reached), rule.source)
    return found


def lead_place(word, rules):
    """Where in a word a lead stands: its beginning and its end; None in a normal word."""
    for start in range(len(word) - 1):
        for end in range(start + 2, len(word) + 1):
            if word[start:end] in rules:
                return start, end
    return None


def others_than(word, place, rules):
    """The pairs of a greater word and a fraction the sum of which, with the relations, is a word with a lead."""
    start, end = place
    rule = rules[word[start:end]]
    lower = rule.numbers[rule.lead]
    sign = -1 if lower > 0 else 1
    return [
        (word[:start] + other + word[end:], fraction_of(sign * number, abs(lower)))
        for other, number in rule.numbers.items()
        if other != rule.lead
    ]


def normal_form(part, rules, letters, length):
    """The normal form of a part of a length, a dict, and the pairs of a word and a fraction that led to it."""
    gathered = {word: [number] for word, number in part}
    found = {}
    used = []
    for word in words_of(letters, length):
        number = total_of(gathered.get(word, []))
        if number == NIL:
            continue
        place = lead_place(word, rules)
        if place is None:
            found[word] = number
            continue
        used.append((word, number))
        # All that comes in its place is greater, and is looked at later on.
        for other, factor in others_than(word, place, rules):
            gathered.setdefault(other, []).append(multiplied(number, factor))
    return found, used


def normal_weights(normal, rules, letters):
    """The sum that makes of each sum the number of its normal form at a normal word."""
    weights = {}
    for word in reversed(words_of(letters, len(normal))):
        place = lead_place(word, rules)
        if place is None:
            weights[word] = ONE if word == normal else NIL
        else:
            others = others_than(word, place, rules)
            weights[word] = total_of([multiplied(factor, weights[other]) for other, factor in others])
    return sum_of(weights)


def made_of(terms, weights):
    """What weights make of a sum: the sum of the products of both numbers at each word."""
    numbers = dict(terms)
    return total_of([multiplied(numbers[word], number) for word, number in weights if word in numbers])


def bracket_ways(path):
    """The relation of a path, bracketed with its letters: how often it stands between which two words."""
    found = {((), ()): 1}
    for letter in path[1:]:
        longer = {(ahead, behind + (letter,)): many for (ahead, behind), many in found.items()}
        for (ahead, behind), many in found.items():
            pair = ((letter,) + ahead, behind)
            longer[pair] = longer.get(pair, 0) - many
        found = longer
    return found
