"""Tables: what they are, sums and steps in them, their flows, and the shifts of words.

The functions of the interface check their arguments; those called table_.. take
tables that were checked before.
"""

from flowpieces.errors import InvalidTables, InvalidWord, NotClosed
from flowpieces.steps import check_step, step_has_two
from flowpieces.values import (
    NIL,
    ONE,
    added,
    check_fraction,
    check_letters,
    fraction_of,
    is_fraction,
    multiplied,
    over_one_number,
)
from flowpieces.words import check_sum, check_word, sum_at, sum_has_two

MOST_ROWS = 12


def is_row(value, many):
    """Whether a value, whatever it is, is a tuple of so many fractions."""
    return type(value) == tuple and len(value) == many and all([is_fraction(number) for number in value])


def is_table(value):
    """Whether a value, whatever it is, is a table."""
    if type(value) != tuple or not 1 <= len(value) <= MOST_ROWS:
        return False
    return all([is_row(row, len(value)) for row in value])


def are_tables(value):
    """Whether a value, whatever it is, is tables."""
    if type(value) != tuple or len(value) not in (2, 3):
        return False
    # How many rows the first one has may be asked only where it is known to be a table.
    return is_table(value[0]) and all([is_table(table) and len(table) == len(value[0]) for table in value[1:]])


def check_tables(tables, has_two):
    """Refuse what is no tables, has_two telling whether there has to be one for the letter 2."""
    if not are_tables(tables) or (has_two and len(tables) == 2):
        raise InvalidTables(tables)


def check_closed(tables):
    """Refuse tables of which one is not closed."""
    if not all([is_closed(table) for table in tables]):
        raise NotClosed()


def is_closed(table):
    """Whether a table has 0 on and below its slant."""
    return all([number == NIL for at, row in enumerate(table) for number in row[: at + 1]])


def table_of_slant(number, many):
    """The table of so many rows with the number on its slant and 0 beside it."""
    return tuple([tuple([number if column == row else NIL for column in range(many)]) for row in range(many)])


def table_plus(first, second):
    """Both tables added."""
    return tuple([tuple([added(one, two) for one, two in zip(row, other)]) for row, other in zip(first, second)])


def table_times(table, fraction):
    """A table times a fraction."""
    return tuple([tuple([multiplied(number, fraction) for number in row]) for row in table])


def table_product(first, second):
    """The product of two tables."""
    rows = [over_one_number(row) for row in first]
    columns = [over_one_number(column) for column in zip(*second)]
    return tuple([tuple([pairwise_product(row, column) for column in columns]) for row in rows])


def pairwise_product(row, column):
    """The sum of the products of a row's and a column's fractions, both over one number."""
    total = sum([first * second for first, second in zip(row[0], column[0])])
    return fraction_of(total, row[1] * column[1])


def table_for(terms, tables):
    """The table for which a sum stands.

    Words with one first letter are taken together, so that what they share is multiplied once.
    """
    total = table_of_slant(sum_at(terms, ()), len(tables[0]))
    for letter, table in enumerate(tables):
        rest = tuple([(word[1:], number) for word, number in terms if word[:1] == (letter,)])
        if rest:
            total = table_plus(total, table_product(table, table_for(rest, tables)))
    return total


def table_flow(table, time):
    """The flow of a closed table for a time."""
    many = len(table)
    power = table_of_slant(ONE, many)
    total = power
    # The power of as many as there are rows is 0.
    for above in range(1, many):
        power = table_times(table_product(power, table), multiplied(time, (1, above)))
        total = table_plus(total, power)
    return total


def are_closed(tables):
    """Whether each of the tables is closed."""
    check_tables(tables, False)
    return all([is_closed(table) for table in tables])


def shifts(word, letters):
    """The shifts of a word, one table for each of 2 or 3 letters."""
    check_word(word)
    if len(word) >= MOST_ROWS:
        raise InvalidWord(word)
    check_letters(letters)
    if letters == 2 and 2 in word:
        raise InvalidWord(word)
    return tuple([shift_of(word, letter) for letter in range(letters)])


def shift_of(word, letter):
    """The table of a letter among the shifts of a word."""
    many = len(word) + 1
    rows = [[NIL] * many for _ in range(many)]
    for at, other in enumerate(word):
        if other == letter:
            rows[at][at + 1] = ONE
    return tuple([tuple(row) for row in rows])


def read_in(terms, tables):
    """The table for which a sum stands."""
    check_sum(terms)
    check_tables(tables, sum_has_two(terms))
    return table_for(terms, tables)


def step_table(step, tables, fraction):
    """The step of the length that the fraction is, in closed tables: a table."""
    check_step(step)
    check_tables(tables, step_has_two(step))
    check_fraction(fraction)
    check_closed(tables)
    total = table_of_slant(ONE, len(tables[0]))
    for letter, number in step:
        total = table_product(total, table_flow(tables[letter], multiplied(number, fraction)))
    return total


def flow_table(tables, fraction):
    """The flow of the sum of all closed tables for the time that the fraction is: a table."""
    check_tables(tables, False)
    check_fraction(fraction)
    check_closed(tables)
    total = tables[0]
    for table in tables[1:]:
        total = table_plus(total, table)
    return table_flow(total, fraction)
