"""Steps on the swing: points 3 to 5 and 23 to 26 and flowpieces/swings.py."""

import unittest
from fractions import Fraction
from math import factorial, gcd

from flowpieces.errors import InvalidFraction, InvalidNumber, InvalidStep, NotRight, NotStaying
from flowpieces.orders import order_of, step_towards
from flowpieces.parts import in_parts
from flowpieces.polynomials import common_divisor, factors_by_power, poly_times
from flowpieces.roots import near_square_root
from flowpieces.steps import joined, mirrored, undoing
from flowpieces.swings import (
    kept_form,
    stray,
    swing_at,
    swing_bound,
    swing_order,
    swing_table,
    swing_word,
)
from samples import (
    HALF,
    LESS,
    NIL,
    NO_FRACTIONS,
    NO_STEPS,
    ONE,
    STRANGE,
    WIDE,
    check_refused,
    fixed_source,
    pair_of,
    random_fraction,
    random_step,
    table_as_pairs,
)

TWO = (2, 1)
LEAD, LEAP = ((0, ONE), (1, ONE)), ((0, HALF), (1, ONE), (0, HALF))
# Its trace is 2 - h h + h h h h / 16: it touches - 2 at h h = 8, where it is not - 1.
TOUCHING = ((0, (9, 8)), (1, (4, 3)), (0, (-1, 8)), (1, (-1, 3)))
WITH_TWO = ((2, ONE),), ((2, NIL),) + LEAP, LEAP + ((2, ONE), (2, LESS)), ((0, ONE), (2, NIL))
NO_TIMES = NO_FRACTIONS + ((0, 1), (-1, 1), (-1, 2), (-(10**399), 1))
NO_MANY = STRANGE + (0, -1, 10**6 + 1, 10**399, -(10**399), (), (1,), (1, 1), "1", [1])
ALIKE_TABLE = (((ONE,), ()), ((), (ONE,)))


def plain_swing(step, time):
    """M at a length, the tables of the pieces multiplied one by one."""
    first, above, below, second = Fraction(1), Fraction(0), Fraction(0), Fraction(1)
    for letter, number in step:
        change = Fraction(*number) * time
        if letter == 0:
            above, second = above + first * change, second + below * change
        else:
            first, below = first - above * change, below - second * change
    return first, above, below, second


def plain_word(step, time):
    """What the step does by the trace and the table itself."""
    first, above, below, second = plain_swing(step, time)
    if abs(first + second) == 2:
        return "stays" if (above, below) == (0, 0) and first == second else "creeps"
    return "stays" if abs(first + second) < 2 else "grows"


def product_of(first, second):
    (a, b, c, d), (e, f, g, h) = first, second
    return a * e + b * g, a * f + b * h, c * e + d * g, c * f + d * h


def squares_of(numbers):
    return sum(number * number for number in numbers)


def closed_up(step):
    """The step with two pieces more, so that it is of the order 1 at least."""
    for letter in (0, 1):
        rest = 1 - sum(Fraction(*number) for one, number in step if one == letter)
        step = joined(step, ((letter, pair_of(rest)),))
    return step


def repeated(step, many):
    return in_parts(step, ((1, many),) * many)


def parted(many):
    """So many times, one behind the other, half a piece of the letter 0, one of the letter 1, half a piece."""
    return ((0, (1, 2 * many)), (1, (1, many)), (0, (1, 2 * many))) * many


class Examples(unittest.TestCase):
    def test_tables(self):
        told = ((((1, 1), (0, 1), (-1, 2)), ((0, 1), (1, 1), (0, 1), (-1, 4))), (((0, 1), (-1, 1)), ((1, 1), (0, 1), (-1, 2))))
        self.assertEqual(swing_table(LEAP), told)
        self.assertEqual(swing_table(()), ((((1, 1),), ()), ((), ((1, 1),))))
        self.assertEqual(swing_at(LEAP, TWO), (((-1, 1), (0, 1)), ((-2, 1), (-1, 1))))

    def test_words_and_bounds(self):
        self.assertEqual(swing_word(LEAP, ONE), "stays")
        self.assertEqual(swing_word(LEAP, TWO), "creeps")
        self.assertEqual(swing_word(LEAP, (3, 1)), "grows")
        self.assertEqual(swing_word(((0, ONE),), ONE), "creeps")
        self.assertEqual(swing_word((), ONE), "stays")
        self.assertEqual(swing_bound(LEAP, 10), (20, True))
        self.assertEqual(swing_bound(LEAD, 1), (2, True))
        self.assertEqual(swing_bound(in_parts(LEAP, (HALF, HALF)), 1), (4, True))

    def test_forms_and_strays(self):
        self.assertEqual(kept_form(LEAP, ONE), ((1, 1), (0, 1), (3, 4)))
        self.assertEqual(kept_form(LEAD, ONE), ((1, 1), (-1, 1), (1, 1)))
        self.assertEqual(stray(LEAP, HALF, 60), (64, True))
        self.assertEqual(stray(LEAP, ONE, 100), (128, False))
        self.assertEqual((swing_order(LEAP), swing_order(LEAD), swing_order(())), (2, 1, 0))
        with self.assertRaises(NotStaying):
            kept_form(LEAP, TWO)


class TablesOnTheSwing(unittest.TestCase):
    def test_at_lengths(self):
        source = fixed_source(141)
        for pieces in (0, 1, 2, 5, 9):
            for _ in range(5):
                step, time = random_step(source, 2, pieces), random_fraction(source)
                time = (abs(time[0]) + time[1], time[1])
                if gcd(*time) > 1:
                    continue
                told = swing_at(step, time)
                self.assertEqual(swing_at(time=time, step=step), told)
                first, above, below, second = plain_swing(step, Fraction(*time))
                self.assertEqual(told, table_as_pairs(((first, above), (below, second))))
                self.assertEqual(first * second - above * below, 1)

    def test_polynomials(self):
        source = fixed_source(142)
        for pieces in (0, 1, 2, 3, 6, 9):
            step = random_step(source, 2, pieces)
            told = swing_table(step)
            self.assertEqual(swing_table(step=step), told)
            for row in told:
                for numbers in row:
                    self.assertTrue(numbers == () or numbers[-1] != NIL)
            # They have degrees of at most so many pieces: as many lengths and one more tell them.
            for at in range(1, pieces + 3):
                time = Fraction(at, 3)
                worth = [
                    sum(Fraction(*number) * time**power for power, number in enumerate(numbers))
                    for row in told for numbers in row
                ]
                self.assertEqual(tuple(worth), plain_swing(step, time))

    def test_even_and_odd_powers(self):
        table = swing_table(random_step(fixed_source(143), 2, 12))
        for row, line in enumerate(table):
            for column, numbers in enumerate(line):
                for power, number in enumerate(numbers):
                    if power % 2 != (row + column) % 2:
                        self.assertEqual(number, NIL)

    def test_edges(self):
        self.assertEqual(swing_table(((0, NIL),)), ALIKE_TABLE)
        self.assertEqual(swing_table(joined(LEAP, undoing(LEAP))), ALIKE_TABLE)
        self.assertEqual(swing_table(((0, HALF),)), (((ONE,), (NIL, HALF)), ((), (ONE,))))
        self.assertEqual(swing_table(((1, HALF),)), (((ONE,), ()), ((NIL, (-1, 2)), (ONE,))))
        long = tuple((at % 2, WIDE) for at in range(60))
        table = swing_table(long)
        self.assertEqual(len(table[0][0]), 61)
        self.assertEqual(len(table[0][1]), 60)
        self.assertEqual(len(table[1][1]), 59)
        first = swing_at(long, WIDE)[0][0]
        self.assertTrue(first == pair_of(plain_swing(long, Fraction(*WIDE))[0]))


class WordsAtLengths(unittest.TestCase):
    def test_by_the_table(self):
        source = fixed_source(144)
        seen = {"stays": 0, "creeps": 0, "grows": 0}
        for _ in range(150):
            step = random_step(source, 2, source.randint(0, 4))
            time = pair_of(Fraction(source.randint(1, 12), source.randint(1, 4)))
            told = swing_word(step, time)
            self.assertEqual(swing_word(time=time, step=step), told)
            self.assertEqual(told, plain_word(step, Fraction(*time)))
            seen[told] += 1
        self.assertGreater(min(seen.values()), 10)

    def test_by_the_powers(self):
        for step, time in (
            (LEAP, ONE), (LEAP, TWO), (LEAP, (21, 10)), (LEAD, TWO), (parted(2), (2828, 1000)), (((0, ONE),), ONE), ((), ONE),
            (((0, ONE), (1, TWO), (0, ONE)), ONE), (((0, TWO), (1, ONE)), (5, 1)), (TOUCHING, (2, 1)), (TOUCHING, (3, 1)),
        ):
            time = pair_of(Fraction(*time))
            table = power = plain_swing(step, Fraction(*time))
            sizes = []
            for _ in range(60):
                sizes.append(max(abs(number) for number in power))
                power = product_of(power, table)
            told = swing_word(step, time)
            if told == "stays":
                self.assertLess(max(sizes), 100)
            elif told == "grows":
                self.assertGreater(sizes[-1], 1.2**50)
            else:
                self.assertEqual(len({sizes[at + 1] - sizes[at] for at in range(10, 59)}), 1)
                self.assertGreater(sizes[-1], sizes[10])

    def test_steps_that_turn_round(self):
        half_round = (((0, ONE), (1, TWO), (0, ONE)), ((0, ONE), (1, ONE), (0, ONE), (1, ONE), (0, ONE), (1, ONE)))
        for step in half_round:
            first, above, below, second = plain_swing(step, Fraction(1))
            self.assertEqual((first, second), (-1, -1))
            self.assertEqual(swing_word(step, ONE), "creeps" if (above, below) != (0, 0) else "stays")
            self.assertEqual(swing_word(joined(step, step), ONE), swing_word(step, ONE))
        self.assertEqual(swing_at(half_round[1], ONE), ((LESS, NIL), (NIL, LESS)))
        self.assertEqual(swing_word(joined(LEAP, undoing(LEAP)), (9, 1)), "stays")

    def test_wide_lengths(self):
        near, far = (2 * 10**398 - 1, 10**398), (2 * 10**398 + 1, 10**398)
        self.assertEqual((swing_word(LEAP, near), swing_word(LEAP, TWO), swing_word(LEAP, far)), ("stays", "creeps", "grows"))
        self.assertEqual(swing_word(LEAD * 30, WIDE), "grows")
        self.assertEqual(swing_word(LEAD * 30, (WIDE[1], WIDE[0])), "stays")


class Bounds(unittest.TestCase):
    def check_bound(self, step, many):
        """A bound by what the step does ahead of it and where it ends, at many lengths; tells it."""
        told, is_just = near = swing_bound(step, many)
        self.assertEqual(swing_bound(many=many, step=step), near)
        self.assertIs(type(is_just), bool)
        low = Fraction(told, many)
        for at in range(1, 40):
            if told > 0:
                self.assertEqual(plain_word(step, low * Fraction(at, 40)), "stays")
        ahead, behind = Fraction(1, 10**9), Fraction(1, 10**9)
        words = [plain_word(step, low + Fraction(at, 60 * many)) for at in range(1 if told == 0 else 0, 61)]
        if is_just:
            self.assertEqual(plain_word(step, low - ahead), "stays")
            self.assertTrue(plain_word(step, low) != "stays" or plain_word(step, low + behind) != "stays")
        return near, words

    def test_where_steps_grow(self):
        source = fixed_source(145)
        for _ in range(60):
            step = closed_up(random_step(source, 2, source.randint(0, 7)))
            if source.random() < 0.4:
                step = repeated(step, source.randint(2, 3))
            (_, is_just), words = self.check_bound(step, source.choice((1, 7, 1000, 10**6)))
            self.assertTrue(is_just or any(word != "stays" for word in words))

    def test_the_greatest_ones(self):
        for many in (1, 2, 3, 4, 7, 12, 20):
            step = parted(many)
            for near in (1, 10, 10**6):
                self.assertEqual(swing_bound(step, near), (2 * many * near, True))
            # On the way it turns round and comes back.
            for at in range(1, 2 * many):
                self.assertEqual(plain_word(step, Fraction(at)), "stays")
        self.assertEqual(swing_bound(repeated(LEAD, 5), 3), (30, True))

    def test_no_step_gets_further(self):
        source = fixed_source(146)
        for _ in range(30):
            step = closed_up(random_step(source, 2, 4))
            pieces = max(1, sum(letter == 1 for letter, _ in step))
            self.assertLessEqual(swing_bound(step, 1000)[0], 2000 * pieces)

    def test_touching_without_turning_round(self):
        # The square of the bound is 8, though the trace leaves the numbers from - 2 to 2 at 16 alone.
        for many in (1, 10, 1000, 10**6):
            root = int((8 * many * many) ** Fraction(1, 2))
            self.assertEqual(swing_bound(TOUCHING, many), (root, False))
            self.assertEqual(swing_bound(repeated(TOUCHING, 2), many)[1], False)
        self.assertEqual(swing_bound(repeated(TOUCHING, 2), 1000), (5656, False))
        self.assertEqual(swing_bound(parted(2), 1000), (4000, True))
        self.assertEqual(plain_word(TOUCHING, Fraction(3)), "stays")

    def test_turning_round_and_growing(self):
        # Behind each other a step and one of another bound: they turn round at unlike lengths.
        for first, second in ((LEAP, LEAD), (parted(2), LEAP), (TOUCHING, LEAP), (parted(3), parted(2))):
            step = joined(in_parts(first, (HALF,)), in_parts(second, (HALF,)))
            near, words = self.check_bound(step, 10**4)
            self.assertTrue(near[1] or any(word != "stays" for word in words))

    def test_turning_round_and_growing_there(self):
        # At 9 / 4 it is 1 or - 1, and the square of the trace passes 4.
        step = (
            (1, (4, 9)), (0, (-4, 3)), (1, (-1, 9)), (0, (8, 3)), (1, (-2, 9)), (0, (-2, 3)), (1, (8, 9)), (0, (1, 3)),
        )
        place = Fraction(9, 4)
        first, above, below, second = plain_swing(step, place)
        self.assertEqual((above, below, abs(first)), (0, 0, 1))
        self.assertEqual(first, second)
        self.assertEqual(plain_word(step, place + Fraction(1, 10**6)), "grows")
        self.assertEqual([plain_word(step, place * Fraction(at, 60)) for at in range(1, 61)], ["stays"] * 60)
        for many in (1, 4, 1000):
            self.assertEqual(swing_bound(step, many), (9 * many // 4, many > 1))

    def test_turning_round_and_going_on(self):
        # At 4 it is 1 or - 1, and not what it is behind each other: it goes on up to the root of 32.
        for step in (
            ((0, (1, 4)), (1, (-1, 2)), (0, (-1, 16)), (1, (1, 1)), (0, (1, 4)), (1, (1, 3)), (0, (9, 16)), (1, (1, 6))),
            ((1, (-1, 6)), (0, (3, 4)), (1, (1, 4)), (0, (3, 8)), (1, (2, 3)), (0, (1, 8)), (1, (1, 4)), (0, (-1, 4))),
        ):
            first, above, below, second = plain_swing(step, Fraction(4))
            self.assertEqual((above, below, abs(first)), (0, 0, 1))
            self.assertEqual(first, second)
            self.assertEqual([plain_word(step, Fraction(at, 10)) for at in range(1, 57)], ["stays"] * 56)
            self.assertEqual(swing_bound(step, 10**6), (5656854, False))
            self.check_bound(step, 1000)

    def test_hardly_another_step(self):
        # Parts of a step that would turn round, changed by so little: it grows or creeps near there.
        little = Fraction(1, 10**399)
        for many in (2, 3, 10):
            numbers = [[letter, Fraction(*number)] for letter, number in parted(many)]
            numbers[1][1] += little
            numbers[4][1] -= little
            step = tuple((letter, pair_of(number)) for letter, number in numbers)
            told, is_just = swing_bound(step, 10**6)
            self.assertIs(is_just, False)
            self.assertLess(told, 2 * many * 10**6 - 10**4)
            low = Fraction(told, 10**6)
            self.assertEqual(plain_word(step, low), "stays")
            ahead = [Fraction(at, 100) for at in range(1, int(low * 100) + 1)]
            self.assertEqual([word for word in (plain_word(step, time) for time in ahead) if word != "stays"], [])
            if many == 2:
                self.assertEqual(told, 2828427)

    def test_edges(self):
        for step in (LEAD, mirrored(LEAD), LEAP, mirrored(joined(LEAD, ((0, NIL),))), ((1, HALF), (0, ONE), (1, HALF))):
            for many in (1, 2, 10**6 - 1, 10**6):
                self.assertEqual(swing_bound(step, many), (2 * many, True))
        for step in ((), ((0, ONE),), ((0, ONE), (1, HALF)), ((0, HALF), (0, HALF), (1, NIL)), undoing(LEAP)):
            for call in (lambda: swing_bound(step, 1), lambda: swing_bound(step=step, many=10**6)):
                with self.assertRaises(NotRight):
                    call()
        self.assertEqual(order_of(((0, (3, 2)), (1, ONE), (0, (-1, 2))), 2), 1)
        self.assertEqual(swing_bound(((0, (3, 2)), (1, ONE), (0, (-1, 2))), 1), (2, True))

    def test_steps_of_greater_orders(self):
        for order in (3, 4):
            step = step_towards((((0,), ONE), ((1,), ONE)), order)
            (_, is_just), words = self.check_bound(step, 100)
            self.assertTrue(is_just or any(word != "stays" for word in words))

    def test_sixty_wide_pieces(self):
        source = fixed_source(147)
        step = tuple((at % 2, pair_of(Fraction(source.randrange(10**397) + 10**397, 10**399))) for at in range(38))
        step = closed_up(step)
        self.assertEqual(len(step), 40)
        told, is_just = swing_bound(step, 10**6)
        low = Fraction(told, 10**6)
        for at in (1, 50, 99, 100):
            self.assertEqual(swing_word(step, pair_of(low * Fraction(at, 100))), "stays")
        self.assertIs(is_just, False)
        self.assertNotEqual(swing_word(step, pair_of(low + Fraction(1, 10**6))), "stays")


class KeptForms(unittest.TestCase):
    def staying(self, seed, many):
        source = fixed_source(seed)
        found = []
        while len(found) < many:
            step = random_step(source, 2, source.randint(2, 6))
            time = pair_of(Fraction(source.randint(1, 9), source.randint(1, 9)))
            first, _, _, second = plain_swing(step, Fraction(*time))
            if abs(first + second) < 2:
                found.append((step, time))
        return found

    def test_they_are_kept(self):
        for step, time in self.staying(148, 40):
            told = kept_form(step, time)
            self.assertEqual(kept_form(time=time, step=step), told)
            self.assertEqual(told[0], ONE)
            one, slanted, last = [Fraction(*number) for number in told]
            first, above, below, second = plain_swing(step, Fraction(*time))
            for place, speed in ((1, 0), (0, 1), (1, 1), (3, -2)):
                ahead = place * place + slanted * place * speed + last * speed * speed
                place, speed = first * place + above * speed, below * place + second * speed
                self.assertEqual(place * place + slanted * place * speed + last * speed * speed, ahead)
            self.assertLess(slanted * slanted, 4 * last)

    def test_strays(self):
        for step, time in self.staying(149, 40):
            for many in (1, 10, 10**6):
                near, is_just = stray(step, time, many)
                self.assertEqual(stray(many=many, time=time, step=step), (near, is_just))
                self.check_stray(step, time, many, near, is_just)

    def check_stray(self, step, time, many, near, is_just):
        table = plain_swing(step, Fraction(*time))
        if table[0] + table[3] in (0, 1, -1):
            power, sums = table, []
            for _ in range(12):
                sums.append(squares_of(power))
                power = product_of(power, table)
            total = max(sums)
            self.assertEqual(sums[:6], sums[6:])
        else:
            _, slanted, last = [Fraction(*number) for number in kept_form(step, time)]
            gap = last - slanted * slanted / 4
            total = ((1 + last) ** 2 - 2 * gap) / gap
        worth = [number * number - total * number + 1 for number in (Fraction(near, many), Fraction(near + 1, many))]
        # From the greater root on x x - r x + 1 is above 0.
        self.assertTrue(worth[0] <= 0 < worth[1] and near >= many and Fraction(near + 1, many) > total / 2)
        self.assertIs(is_just, worth[0] == 0)

    def test_no_power_strays_further(self):
        for step, time in self.staying(150, 15):
            limit = Fraction(stray(step, time, 10**6)[0] + 1, 10**6)
            table = power = plain_swing(step, Fraction(*time))
            table = power = tuple(float(number) for number in table)
            greatest = 0
            for _ in range(300):
                total = squares_of(power)
                greatest = max(greatest, (total + max(0, total * total - 4) ** 0.5) / 2)
                power = product_of(power, table)
            self.assertLess(greatest, float(limit) * (1 + 1e-6))
            first, _, _, second = table
            if first + second not in (0, 1, -1):
                self.assertGreater(greatest, float(limit) * 0.8)

    def test_whole_turns(self):
        # At 1 leap has the trace 1, at the root of 2 it would be 0; lead has it at 1, too.
        self.assertEqual(stray(LEAD, ONE, 1000), (2618, False))
        quarter = ((0, ONE), (1, ONE), (0, ONE))
        self.assertEqual(swing_at(quarter, ONE), ((NIL, ONE), (LESS, NIL)))
        self.assertEqual(kept_form(quarter, ONE), (ONE, NIL, ONE))
        self.assertEqual(stray(quarter, ONE, 7), (7, True))
        other = ((0, TWO), (1, HALF), (0, TWO))
        self.assertEqual(swing_at(other, ONE), ((NIL, TWO), ((-1, 2), NIL)))
        self.assertEqual(stray(other, ONE, 3), (12, True))
        for step in (joined(LEAD, LEAD), undoing(LEAD), ((0, ONE), (1, TWO), (0, (1, 3))), ((0, TWO), (1, (3, 2)))):
            for many in (1, 999, 10**6):
                if abs(sum(plain_swing(step, Fraction(1))[::3])) < 2:
                    self.check_stray(step, ONE, many, *stray(step, ONE, many))

    def test_where_steps_do_not_stay_so(self):
        turned = ((0, ONE), (1, ONE)) * 3
        for step, time in (
            (LEAP, TWO), (LEAP, (3, 1)), ((), ONE), (((0, ONE),), ONE), (((1, NIL),), WIDE), (turned, ONE),
            (joined(turned, turned), ONE), (joined(LEAP, undoing(LEAP)), HALF), (LEAD, TWO), (LEAD, (5, 1)),
        ):
            for call in (
                lambda: kept_form(step, time), lambda: kept_form(time=time, step=step), lambda: stray(step, time, 1),
                lambda: stray(many=10**6, time=time, step=step),
            ):
                with self.assertRaises(NotStaying):
                    call()
        self.assertEqual(swing_word(turned, ONE), "stays")

    def test_wide_numbers(self):
        short = (WIDE[1], WIDE[0])
        one, slanted, last = kept_form(LEAP, short)
        self.assertEqual((one, slanted), (ONE, NIL))
        self.assertTrue(last == pair_of(1 - Fraction(*short) ** 2 / 4))
        self.check_stray(LEAP, short, 10**6, *stray(LEAP, short, 10**6))
        near = (2 * 10**398 - 1, 10**398)
        self.check_stray(LEAP, near, 10**6, *stray(LEAP, near, 10**6))
        self.check_stray(LEAD * 30, short, 1, *stray(LEAD * 30, short, 1))


class SwingOrders(unittest.TestCase):
    def plain_order(self, step):
        (first, above), (below, second) = swing_table(step)
        for power in range(200):
            number = Fraction((-1) ** (power // 2), factorial(power))
            wanted = (0, number, -number, 0) if power % 2 else (number, 0, 0, number)
            found = [Fraction(*numbers[power]) if power < len(numbers) else 0 for numbers in (first, above, below, second)]
            if tuple(found) != wanted:
                return power - 1
        return None

    def test_by_all_powers(self):
        source = fixed_source(151)
        steps = [random_step(source, 2, 5), closed_up(random_step(source, 2, 4)), LEAD, LEAP, (), ((0, ONE),), parted(3)]
        steps += [step_towards((((0,), ONE), ((1,), ONE)), order) for order in (2, 3, 4, 5)]
        steps += [in_parts(LEAP, (HALF, (2, 3), (5, 6), LESS))]
        for step in steps:
            self.assertEqual(swing_order(step), self.plain_order(step))
            self.assertEqual(swing_order(step=step), swing_order(step))
            self.assertGreaterEqual(swing_order(step), order_of(step, 2))

    def test_above_the_order(self):
        # Behind another step lead has the trace of leap: what matters is more than the trace.
        step = joined(joined(((0, (-1, 2)),), LEAD), ((0, HALF),))
        self.assertEqual(swing_order(step), 2)
        self.assertEqual(swing_order(undoing(LEAP)), 0)
        # 0 0 1 brackets alone are nought on the swing from the length 4 on.
        straight = (((0,), ONE), ((1,), ONE))
        beyond = step_towards(straight, 6)
        self.assertGreaterEqual(swing_order(beyond), 6)

    def test_edges(self):
        self.assertEqual([swing_order(step) for step in ((), ((0, NIL),), ((0, ONE),), ((1, WIDE),))], [0, 0, 0, 0])


class Polynomials(unittest.TestCase):
    def test_common_divisors(self):
        source = fixed_source(152)
        for size in (9, 10**60):
            for many in range(4):
                parts = [[source.randint(-size, size) for _ in range(source.randint(1, 4))] + [1] for _ in range(3)]
                shared = [1]
                for _ in range(many):
                    shared = poly_times(shared, [source.randint(1, size), 1])
                found = common_divisor(poly_times(parts[0], shared), poly_times(parts[1], shared))
                self.assertGreaterEqual(len(found), len(shared))
                self.assertEqual(common_divisor(found, shared), shared)
        # 2 ** 61 - 1 is a root of the first one there.
        prime = 2**61 - 1
        self.assertEqual(common_divisor([1, prime], [1, 2 * prime]), [1])
        self.assertEqual(common_divisor([1, 0, prime], [1, prime]), [1])
        self.assertEqual(common_divisor([prime, 1], [0, 1]), [1])
        self.assertEqual(common_divisor(poly_times([1, prime], [1, 1]), poly_times([2, 1], [1, 1])), [1, 1])
        self.assertEqual(common_divisor(poly_times([2, 1], [1, 1]), poly_times([1, prime], [1, 1])), [1, 1])

    def test_roots_by_how_often_they_are_there(self):
        one, two, three = [1, 1], [2, 1], [-3, 2]
        made = poly_times(one, poly_times(poly_times(two, two), poly_times(three, poly_times(three, three))))
        self.assertEqual(factors_by_power(made), [one, two, three])
        self.assertEqual(factors_by_power(poly_times(two, two)), [[1], two])
        self.assertEqual(factors_by_power(one), [one])

    def test_square_roots(self):
        self.assertEqual(near_square_root([9, -1], 37, 10), (30, True))
        self.assertEqual(near_square_root([8, -1], 37, 1000), (2828, False))
        # Roots in the middle of what is looked at, and others behind it.
        self.assertEqual(near_square_root(poly_times([4, -1], [5, -1]), 8, 100), (200, True))
        self.assertEqual(near_square_root(poly_times([1, -1], poly_times([2, -1], [3, -1])), 8, 100), (100, True))
        self.assertEqual(near_square_root(poly_times([5, -2], [5000001, -2 * 10**6]), 8, 10**6), (1581138, False))
        self.assertEqual(near_square_root(poly_times([5, -2], [1, 0, 1]), 8, 2), (3, False))
        # The other root is where the place of the smallest one ends.
        self.assertEqual(near_square_root(poly_times([5, -2], [4, -1]), 8, 1000), (1581, False))


class Refusals(unittest.TestCase):
    def test_steps(self):
        for function, more in (
            (swing_table, {}), (swing_at, {"time": ONE}), (swing_word, {"time": ONE}), (swing_bound, {"many": 1}),
            (kept_form, {"time": ONE}), (stray, {"time": ONE, "many": 1}), (swing_order, {}),
        ):
            check_refused(self, function, {"step": LEAP, **more}, "step", NO_STEPS + WITH_TWO, InvalidStep)
            wrong = {"step": None, **{name: None for name in more}}
            check_refused(self, function, wrong, "step", [7] + list(WITH_TWO), InvalidStep)

    def test_times(self):
        for function, more in ((swing_at, {}), (swing_word, {}), (kept_form, {}), (stray, {"many": None})):
            check_refused(self, function, {"step": LEAP, "time": ONE, **more}, "time", NO_TIMES, InvalidFraction)
            check_refused(self, function, {"step": (), "time": ONE, **more}, "time", [NIL, LESS], InvalidFraction)

    def test_numbers(self):
        check_refused(self, swing_bound, {"step": LEAP, "many": 1}, "many", NO_MANY, InvalidNumber)
        check_refused(self, swing_bound, {"step": (), "many": 1}, "many", NO_MANY, InvalidNumber)
        check_refused(self, stray, {"step": LEAP, "time": ONE, "many": 1}, "many", NO_MANY, InvalidNumber)
        check_refused(self, stray, {"step": (), "time": TWO, "many": 1}, "many", NO_MANY, InvalidNumber)


if __name__ == "__main__":
    unittest.main()
