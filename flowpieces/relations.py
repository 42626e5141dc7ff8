"""Relations that tables keep, which sums are nought on such tables, and how good steps are there."""

from flowpieces.brackets import bracket_coordinates, word_is_least
from flowpieces.errors import InvalidRelations
from flowpieces.orders import last_length, miss_part
from flowpieces.rules import (
    bracket_ways,
    lead_place,
    made_of,
    normal_form,
    normal_weights,
    rules_of,
    whole_relation,
)
from flowpieces.series import THEMSELVES
from flowpieces.steps import check_step_over, step_short
from flowpieces.values import NIL, check_length, is_between, multiplied, total_of
from flowpieces.words import check_sum, is_sum, sum_has_two, words_of

MOST_RELATIONS = 4


def is_relation(value):
    """Whether a value, whatever it is, is a sum of brackets, not nought, of words of one length from 2 to 4."""
    if not is_sum(value) or value == ():
        return False
    length = len(value[0][0])
    # The last word of a sum is of the greatest length.
    return is_between(length, 2, 4) and len(value[-1][0]) == length and bracket_coordinates(value) is not None


def are_relations(value):
    """Whether a value, whatever it is, are relations."""
    if type(value) != tuple or len(value) > MOST_RELATIONS:
        return False
    return all([is_relation(relation) for relation in value])


def relations_have_two(relations):
    """Whether the letter 2 stands in relations."""
    return any([sum_has_two(relation) for relation in relations])


def check_relations(relations):
    """Refuse what are no relations."""
    if not are_relations(relations):
        raise InvalidRelations(relations)


def check_relations_and_sum(relations, terms, length):
    """Refuse relations, a sum and a length; tells how many letters are let."""
    check_relations(relations)
    check_sum(terms)
    has_two = relations_have_two(relations) or sum_has_two(terms)
    check_length(length, has_two)
    return 3 if has_two else 2


def check_kept(step, letters, relations):
    """Refuse a step, a number of letters and relations."""
    check_step_over(step, letters)
    check_relations(relations)
    if letters == 2 and relations_have_two(relations):
        raise InvalidRelations(relations)


def part_at(terms, length):
    """The part of a sum of a length."""
    return tuple([(word, number) for word, number in terms if len(word) == length])


def vanishes(relations, terms, length):
    """Whether, with the relations, a sum is nought up to a length."""
    letters = check_relations_and_sum(relations, terms, length)
    rules = rules_of(relations, letters, length, False)
    parts = [normal_form(part_at(terms, reached), rules, letters, reached)[0] for reached in range(length + 1)]
    return all([part == {} for part in parts])


def ways(relations, terms, length):
    """By which multiples of relations between words a sum, up to a length, is nought; None if it is not."""
    letters = check_relations_and_sum(relations, terms, length)
    rules = rules_of(relations, letters, length, True)
    gathered = {}
    for reached in range(length + 1):
        found, used = normal_form(part_at(terms, reached), rules, letters, reached)
        if found != {}:
            return None
        for word, number in used:
            gather_ways(word, number, rules, gathered)
    factors = [whole_relation(relation)[1] for relation in relations]
    told = [(place, multiplied(total_of(worth), factors[place[1]])) for place, worth in gathered.items()]
    return tuple([(*place, number) for place, number in told if number != NIL])


def gather_ways(word, number, rules, gathered):
    """Put so much of the rule that is used in a word into lists of fractions by two words and the index between."""
    start, end = lead_place(word, rules)
    rule = rules[word[start:end]]
    lower = rule.numbers[rule.lead]
    # The rule is taken as often as makes its lead's number the word's one.
    factor = multiplied(number, (1, lower) if lower > 0 else (-1, -lower))
    for path, worth in rule.source.items():
        for (ahead, behind), many in bracket_ways(path).items():
            place = (word[:start] + ahead, path[0], behind + word[end:])
            gathered.setdefault(place, []).append(multiplied(multiplied(factor, worth), (many, 1)))


def weights(relations, terms, length):
    """Weights by which anybody sees that, with the relations, a sum is not nought up to a length; None if it is."""
    letters = check_relations_and_sum(relations, terms, length)
    rules = rules_of(relations, letters, length, False)
    for reached in range(length + 1):
        found, _ = normal_form(part_at(terms, reached), rules, letters, reached)
        if found != {}:
            return normal_weights(min(list(found)), rules, letters)
    return None


def are_weights(relations, terms, length, value):
    """Whether a value, whatever it is, are weights by which a sum, up to a length, is not nought with the relations."""
    check_relations_and_sum(relations, terms, length)
    return is_sum(value) and are_weights_up_to(relations, terms, length, value)


def are_weights_up_to(relations, terms, length, value):
    """Whether a sum has words of one length, up to the told one, alone, and is weights of the sum `terms`."""
    if value == () or len(value[0][0]) != len(value[-1][0]) or len(value[0][0]) > length:
        return False
    return made_of(terms, value) != NIL and all([make_nought_of(value, relation) for relation in relations])


def make_nought_of(value, relation):
    """Whether a sum of words of one length makes 0 of a relation between any words."""
    numbers = dict(relation)
    length = len(relation[0][0])
    gathered = {}
    for word, number in value:
        for start in range(len(word) - length + 1):
            middle = word[start : start + length]
            if middle in numbers:
                place = (word[:start], word[start + length :])
                gathered.setdefault(place, []).append(multiplied(number, numbers[middle]))
    # Between words that are not told here it has no word of the value.
    return all([total_of(worth) == NIL for worth in gathered.values()])


def free_words(rules, letters, length):
    """The normal words of a length that are least."""
    return [word for word in words_of(letters, length) if word_is_least(word) and lead_place(word, rules) is None]


def kept_order_and_weights(step, letters, relations):
    """The kept order of a step, and weights that tell that it is no greater; None for them at the last length."""
    pieces = step_short(step)
    last = last_length(letters)
    rules = rules_of(relations, letters, last, False)
    for length in range(1, last + 1):
        free = free_words(rules, letters, length)
        # Where all brackets of a length are nought there is no need of the series.
        miss = miss_part(pieces, THEMSELVES, letters, length) if free else ()
        for word in free if miss != () else []:
            # As all is right at shorter lengths, the miss is a sum of brackets with the relations. So its
            # normal form, if not nought, begins with a least word.
            telling = normal_weights(word, rules, letters)
            if made_of(miss, telling) != NIL:
                return length - 1, telling
    return last, None


def kept_order(step, letters, relations):
    """The order of a step, told up to the last length, on all tables that keep the relations."""
    check_kept(step, letters, relations)
    return kept_order_and_weights(step, letters, relations)[0]


def kept_weights(step, letters, relations):
    """Weights that tell that the kept order of a step is no greater; None if it is the last length."""
    check_kept(step, letters, relations)
    return kept_order_and_weights(step, letters, relations)[1]
