"""Tables: points 3 to 5, 8 and 9 and flowpieces/tables.py."""

import unittest
from fractions import Fraction
from itertools import product as choices

from flowpieces.errors import (
    InvalidFraction,
    InvalidLetters,
    InvalidStep,
    InvalidSum,
    InvalidTables,
    InvalidWord,
    NotClosed,
)
from flowpieces.tables import are_closed, are_tables, flow_table, read_in, shifts, step_table
from flowpieces.words import exponential, number_at, plus, product, times_number
from samples import (
    CELL,
    EMPTY_CELL,
    HALF,
    LESS,
    NIL,
    NO_FRACTIONS,
    NO_LETTERS,
    NO_STEPS,
    NO_SUMS,
    NO_TABLES,
    NO_WORDS,
    ONE,
    STRANGE,
    WIDE,
    check_refused,
    fixed_source,
    pair_of,
    random_fraction,
    random_step,
    random_sum,
    random_table,
    table_as_numbers,
    table_as_pairs,
    with_each_place_changed,
)

PAIR = shifts((0, 1), 2)
TRIPLE = shifts((0, 2, 1), 3)
LOOSE = (CELL, EMPTY_CELL)


def plain_unit(many):
    return [[Fraction(int(row == column)) for column in range(many)] for row in range(many)]


def plain_product(first, second):
    many = range(len(first))
    return [[sum((first[row][at] * second[at][column] for at in many), Fraction(0)) for column in many] for row in many]


def plain_plus(first, second):
    return [[one + two for one, two in zip(row, other)] for row, other in zip(first, second)]


def plain_times(table, number):
    return [[number * one for one in row] for row in table]


def plain_word(word, tables):
    total = plain_unit(len(tables[0]))
    for letter in word:
        total = plain_product(total, tables[letter])
    return total


def plain_sum(terms, tables):
    total = plain_times(plain_unit(len(tables[0])), 0)
    for word, number in terms:
        total = plain_plus(total, plain_times(plain_word(word, tables), Fraction(*number)))
    return total


def plain_flow(table, time):
    """The series of the flow, as far as a closed table has powers other than 0."""
    power = plain_unit(len(table))
    total = power
    for above in range(1, len(table) + 1):
        power = plain_times(plain_product(power, table), time / above)
        total = plain_plus(total, power)
    return total


def plain_step(step, tables, length):
    total = plain_unit(len(tables[0]))
    for letter, number in step:
        total = plain_product(total, plain_flow(tables[letter], Fraction(*number) * length))
    return total


def random_tables(source, letters, many, closed):
    return tuple(random_table(source, many, closed) for _ in range(letters))


class Examples(unittest.TestCase):
    def test_what_they_are(self):
        ahead = (((0, 1), (1, 1), (0, 1)), ((0, 1), (0, 1), (0, 1)), ((0, 1), (0, 1), (0, 1)))
        aside = (((0, 1), (0, 1), (0, 1)), ((0, 1), (0, 1), (1, 1)), ((0, 1), (0, 1), (0, 1)))
        self.assertEqual(PAIR, (ahead, aside))
        self.assertIs(are_closed(PAIR), True)
        self.assertIs(are_tables((PAIR[0],)), False)
        self.assertIs(are_closed((((ONE,),), ((NIL,),))), False)

    def test_step_flow_and_sum(self):
        lead = ((0, ONE), (1, ONE))
        self.assertEqual(step_table(lead, PAIR, HALF)[0], ((1, 1), (1, 2), (1, 4)))
        self.assertEqual(flow_table(PAIR, HALF)[0], ((1, 1), (1, 2), (1, 8)))
        self.assertEqual(read_in((((0, 1), (5, 1)), ((1, 0), ONE)), PAIR)[0], ((0, 1), (0, 1), (5, 1)))

    def test_not_closed(self):
        with self.assertRaises(NotClosed):
            step_table(((0, ONE),), (((ONE,),), ((NIL,),)), ONE)


class WhatTheyAre(unittest.TestCase):
    def test_tables(self):
        source = fixed_source(11)
        for many in range(1, 13):
            for letters in (2, 3):
                for closed in (True, False):
                    tables = random_tables(source, letters, many, closed)
                    self.assertIs(are_tables(tables), True)
                    self.assertIs(are_closed(tables), closed)
        self.assertIs(are_tables(value=(((WIDE,),), CELL)), True)

    def test_no_tables(self):
        for value in NO_TABLES:
            self.assertIs(are_tables(value), False)

    def test_any_value_in_any_place(self):
        for tables in ((CELL, EMPTY_CELL), (CELL, CELL, CELL), PAIR):
            for strange in STRANGE:
                for value in with_each_place_changed(tables, strange):
                    self.assertIs(are_tables(value), False)
        for value in with_each_place_changed(PAIR, None):
            for function, arguments in (
                (are_closed, {}), (read_in, {"terms": ()}), (step_table, {"step": (), "fraction": ONE}),
                (flow_table, {"fraction": ONE}),
            ):
                with self.assertRaises(InvalidTables) as caught:
                    function(tables=value, **arguments)
                self.assertIs(caught.exception.given, value)

    def test_one_number_off(self):
        source = fixed_source(12)
        for many in (1, 3, 12):
            tables = random_tables(source, 3, many, True)
            for at, row, column in ((0, 0, 0), (1, many - 1, 0), (2, many - 1, many - 1)):
                for wrong, answer in (((2, 2), False), (1, False), (None, False), ((-5, 7), True)):
                    rows = [list(line) for line in tables[at]]
                    rows[row][column] = wrong
                    changed = list(tables)
                    changed[at] = tuple(tuple(line) for line in rows)
                    self.assertIs(are_tables(tuple(changed)), answer)
                    if answer:
                        self.assertIs(are_closed(tuple(changed)), False)

    def test_closed(self):
        self.assertIs(are_closed(tables=(EMPTY_CELL, EMPTY_CELL)), True)
        self.assertIs(are_closed((EMPTY_CELL, EMPTY_CELL, CELL)), False)
        below = ((NIL, ONE), (ONE, NIL))
        above = ((NIL, ONE), (NIL, NIL))
        slant = ((NIL, ONE), (NIL, LESS))
        self.assertIs(are_closed((above, above)), True)
        self.assertIs(are_closed((above, below)), False)
        self.assertIs(are_closed((slant, above)), False)


class Shifts(unittest.TestCase):
    def test_rows_and_columns(self):
        for letters in (2, 3):
            for length in (0, 1, 3):
                for word in choices(range(letters), repeat=length):
                    tables = shifts(word, letters)
                    self.assertTrue(are_tables(tables) and are_closed(tables))
                    self.assertEqual(len(tables), letters)
                    for letter, row, column in choices(range(letters), range(length + 1), range(length + 1)):
                        is_one = column == row + 1 and word[row] == letter
                        self.assertEqual(tables[letter][row][column], ONE if is_one else NIL)

    def test_empty_word_and_longest_word(self):
        self.assertEqual(shifts((), 2), (EMPTY_CELL, EMPTY_CELL))
        self.assertEqual(shifts(word=(), letters=3), (EMPTY_CELL,) * 3)
        tables = shifts((0,) * 10 + (1,), 2)
        self.assertEqual(len(tables[0]), 12)
        self.assertEqual([row.index(ONE) for row in tables[0][:10]], list(range(1, 11)))
        self.assertEqual(tables[1][10][11], ONE)

    def test_sums_on_shifts(self):
        source = fixed_source(13)
        for letters, length in ((2, 0), (2, 1), (2, 5), (2, 11), (3, 4), (3, 11)):
            word = tuple(source.randrange(letters) for _ in range(length))
            ends = {word[low:high] for low in range(length + 1) for high in range(low, length + 1)}
            chosen = [end for end in sorted(ends) if source.random() < 0.5]
            terms = random_sum(source, letters, 4, 30)
            for end in chosen:
                terms = plus(terms, ((end, (1, 1 + len(end))),))
            table = read_in(terms, shifts(word, letters))
            for row, column in choices(range(length + 1), repeat=2):
                told = number_at(terms, word[row:column]) if column >= row else NIL
                self.assertEqual(table[row][column], told)


class Reading(unittest.TestCase):
    def test_sums_in_any_tables(self):
        source = fixed_source(14)
        for many in (1, 2, 3, 12):
            for letters in (2, 3):
                for closed in (True, False):
                    tables = random_tables(source, letters, many, closed)
                    plain = [table_as_numbers(table) for table in tables]
                    terms = random_sum(source, letters, 5, 10)
                    told = table_as_pairs(plain_sum(terms, plain))
                    self.assertEqual(read_in(terms, tables), told)
                    self.assertEqual(read_in(terms=terms, tables=tables), told)

    def test_nought_and_one(self):
        tables = random_tables(fixed_source(15), 2, 3, False)
        self.assertEqual(read_in((), tables), ((NIL,) * 3,) * 3)
        self.assertEqual(read_in((((), (-2, 3)),), tables), table_as_pairs(plain_times(plain_unit(3), Fraction(-2, 3))))
        self.assertEqual(read_in((), LOOSE), EMPTY_CELL)

    def test_long_words(self):
        tables = random_tables(fixed_source(16), 2, 2, False)
        word = (0, 1, 1, 0, 1, 0, 0, 1, 1, 0, 1, 0)
        told = table_as_pairs(plain_word(word, [table_as_numbers(table) for table in tables]))
        self.assertEqual(read_in(((word, ONE),), tables), told)

    def test_products_of_closed_tables_end(self):
        tables = random_tables(fixed_source(17), 2, 4, True)
        for word in choices((0, 1), repeat=4):
            self.assertEqual(read_in(((word, ONE),), tables), ((NIL,) * 4,) * 4)

    def test_sums_over_two_letters_in_three_tables(self):
        tables = random_tables(fixed_source(18), 3, 3, False)
        terms = (((), ONE), ((0, 1), HALF))
        self.assertEqual(read_in(terms, tables), read_in(terms, tables[:2]))

    def test_adding_and_multiplying_go_together(self):
        source = fixed_source(19)
        tables = random_tables(source, 2, 3, False)
        first, second = random_sum(source, 2, 3, 8), random_sum(source, 2, 3, 8)
        one, two = (table_as_numbers(read_in(terms, tables)) for terms in (first, second))
        self.assertEqual(read_in(product(first, second, 6), tables), table_as_pairs(plain_product(one, two)))
        self.assertEqual(read_in(plus(first, second), tables), table_as_pairs(plain_plus(one, two)))


class Flows(unittest.TestCase):
    LENGTHS = (NIL, ONE, LESS, HALF, (-7, 3), WIDE)

    def test_steps(self):
        source = fixed_source(20)
        for many in (1, 2, 5, 12):
            for letters in (2, 3):
                tables = random_tables(source, letters, many, True)
                plain = [table_as_numbers(table) for table in tables]
                for length in self.LENGTHS:
                    step = random_step(source, letters, 4)
                    told = table_as_pairs(plain_step(step, plain, Fraction(*length)))
                    self.assertEqual(step_table(step, tables, length), told)
                    self.assertEqual(step_table(step=step, tables=tables, fraction=length), told)

    def test_flows(self):
        source = fixed_source(21)
        for many in (1, 2, 5, 12):
            for letters in (2, 3):
                tables = random_tables(source, letters, many, True)
                total = plain_times(plain_unit(many), 0)
                for table in tables:
                    total = plain_plus(total, table_as_numbers(table))
                for time in self.LENGTHS:
                    told = table_as_pairs(plain_flow(total, Fraction(*time)))
                    self.assertEqual(flow_table(tables, time), told)
                    self.assertEqual(flow_table(tables=tables, fraction=time), told)

    def test_nothing_is_done(self):
        source = fixed_source(22)
        for many in (1, 4, 12):
            tables = random_tables(source, 2, many, True)
            unit = table_as_pairs(plain_unit(many))
            self.assertEqual(step_table((), tables, WIDE), unit)
            self.assertEqual(step_table(random_step(source, 2, 5), tables, NIL), unit)
            self.assertEqual(step_table(((0, NIL), (1, NIL)), tables, ONE), unit)
            self.assertEqual(flow_table(tables, NIL), unit)

    def test_order_of_the_pieces(self):
        self.assertEqual(step_table(((0, ONE), (1, ONE)), PAIR, ONE)[0][2], ONE)
        self.assertEqual(step_table(((1, ONE), (0, ONE)), PAIR, ONE)[0][2], NIL)

    def test_the_sum_of_all_tables_has_the_third_one(self):
        tables = shifts((0, 2, 1), 3)
        self.assertEqual(flow_table(tables, ONE)[0], (ONE, ONE, HALF, (1, 6)))

    def test_steps_and_sums(self):
        # Up to the length 4 nothing is left out for closed tables of five rows.
        source = fixed_source(23)
        tables = random_tables(source, 3, 5, True)
        series = (((), ONE),)
        step = random_step(source, 3, 4)
        for letter, number in step:
            series = product(series, exponential(times_number((((letter,), ONE),), number), 4), 4)
        self.assertEqual(step_table(step, tables, ONE), read_in(series, tables))
        whole = exponential((((0,), ONE), ((1,), ONE), ((2,), ONE)), 4)
        self.assertEqual(flow_table(tables, ONE), read_in(whole, tables))

    def test_what_is_returned_is_a_table(self):
        table = step_table(((0, HALF), (1, WIDE)), PAIR, WIDE)
        self.assertTrue(are_tables((table, flow_table(PAIR, WIDE))))
        closed = read_in((((0,), WIDE), ((0, 1), ONE)), PAIR)
        told = table_as_pairs(plain_flow(table_as_numbers(closed), Fraction(*WIDE)))
        self.assertEqual(flow_table((closed, ((NIL,) * 3,) * 3), WIDE), told)
        self.assertEqual(told[0][1], pair_of(Fraction(*WIDE) ** 2))


class Refusals(unittest.TestCase):
    def test_tables(self):
        check_refused(self, are_closed, {"tables": PAIR}, "tables", NO_TABLES, InvalidTables)
        check_refused(self, read_in, {"terms": (), "tables": PAIR}, "tables", NO_TABLES, InvalidTables)
        right = {"step": (), "tables": PAIR, "fraction": ONE}
        check_refused(self, step_table, right, "tables", NO_TABLES, InvalidTables)
        check_refused(self, flow_table, {"tables": PAIR, "fraction": ONE}, "tables", NO_TABLES, InvalidTables)

    def test_shifts(self):
        right = {"word": (0, 1), "letters": 2}
        words = list(NO_WORDS) + [(0,) * 12, (1,) * 13, (2,) * 12]
        check_refused(self, shifts, right, "word", words + [(0, 2), (2,)], InvalidWord)
        check_refused(self, shifts, {"word": (0, 1), "letters": 3}, "word", words, InvalidWord)
        check_refused(self, shifts, right, "letters", NO_LETTERS, InvalidLetters)
        # The letter 2 counts only where it is known how many letters are let.
        check_refused(self, shifts, {"word": (0, 2), "letters": 2}, "letters", NO_LETTERS, InvalidLetters)
        check_refused(self, shifts, {"word": None, "letters": None}, "word", [None, (0,) * 12, (2,) * 12], InvalidWord)

    def test_other_arguments(self):
        check_refused(self, read_in, {"terms": (), "tables": PAIR}, "terms", NO_SUMS, InvalidSum)
        right = {"step": (), "tables": PAIR, "fraction": ONE}
        check_refused(self, step_table, right, "step", NO_STEPS, InvalidStep)
        check_refused(self, step_table, right, "fraction", NO_FRACTIONS, InvalidFraction)
        check_refused(self, flow_table, {"tables": PAIR, "fraction": ONE}, "fraction", NO_FRACTIONS, InvalidFraction)

    def test_two_tables_and_the_letter_two(self):
        for terms in ((((2,), ONE),), (((0,), ONE), ((0, 1, 2, 1, 1, 1, 1), ONE))):
            read_in(terms, TRIPLE)
            check_refused(self, read_in, {"terms": terms, "tables": TRIPLE}, "tables", [PAIR, LOOSE], InvalidTables)
        for step in (((2, ONE),), ((0, ONE), (2, NIL), (1, ONE))):
            step_table(step, TRIPLE, ONE)
            wrong = {"step": step, "tables": TRIPLE, "fraction": None}
            check_refused(self, step_table, wrong, "tables", [PAIR, LOOSE], InvalidTables)
        # The number 2 is not the letter 2.
        read_in((((0,), (2, 1)), ((1,), (1, 2))), PAIR)
        step_table(((0, (2, 1)), (1, (1, 2))), PAIR, (2, 1))

    def test_not_closed_is_told_last(self):
        for tables in (LOOSE, LOOSE[::-1], (EMPTY_CELL, EMPTY_CELL, CELL)):
            for step in ((), ((0, NIL),), ((0, ONE),), ((1, ONE),)):
                right = {"step": step, "tables": tables, "fraction": ONE}
                with self.assertRaises(NotClosed):
                    step_table(step, tables, NIL)
                with self.assertRaises(NotClosed):
                    step_table(**right)
                check_refused(self, step_table, right, "fraction", [1], InvalidFraction)
            with self.assertRaises(NotClosed):
                flow_table(tables, NIL)
            check_refused(self, flow_table, {"tables": tables, "fraction": ONE}, "fraction", [(2, 2)], InvalidFraction)
        wrong = {"step": ((2, ONE),), "tables": None, "fraction": ONE}
        check_refused(self, step_table, wrong, "tables", [LOOSE], InvalidTables)

    def test_the_first_wrong_argument_is_refused(self):
        check_refused(self, read_in, {"terms": None, "tables": None}, "terms", [7], InvalidSum)
        check_refused(self, step_table, {"step": None, "tables": None, "fraction": None}, "step", [7], InvalidStep)
        check_refused(self, step_table, {"step": (), "tables": None, "fraction": None}, "tables", [7], InvalidTables)
        check_refused(self, flow_table, {"tables": None, "fraction": None}, "tables", [7], InvalidTables)


if __name__ == "__main__":
    unittest.main()
