"""Values that the tests share: wrong ones of all kinds, and right ones with a fixed order."""

from fractions import Fraction
from math import gcd
from random import Random

NIL, HALF, ONE, LESS = (0, 1), (1, 2), (1, 1), (-1, 1)
WIDE = (10**399 + 7, 10**398)


class Hostile:
    """An object that lets nobody look at it."""

    def refuse(self, *rest):
        raise AssertionError("looked at")

    __eq__ = __ne__ = __lt__ = __gt__ = __le__ = __ge__ = refuse
    __len__ = __iter__ = __bool__ = __getitem__ = __contains__ = __index__ = __int__ = refuse
    __hash__ = refuse
    __class__ = property(refuse)


class Alike:
    """An object that says of itself that it is equal to anything."""

    def __eq__(self, other):
        return True

    def __hash__(self):
        return hash(1)


def nested_tuple(depth):
    value = ()
    for _ in range(depth):
        value = (value,)
    return value


def nested_list(depth):
    value = []
    for _ in range(depth):
        value = [value]
    return value


# None of these is a number, a fraction, a word, a sum, a step or tables.
STRANGE = (
    None, True, False, "", "01", b"\x00\x01", [], {}, {0: 1}, set(), frozenset(), range(2), object(), len, int,
    Hostile(), Alike(), Ellipsis, 1j, Fraction(1, 2), [0], [(0, 1)], ([],), ((), ()), (((),),),
    (Hostile(),), (Alike(),), ((Hostile(), Alike()),), ((Alike(), (1, 1)),), (((0,), Alike()),),
    nested_tuple(13), nested_list(13), (nested_list(12),),
)

NO_FRACTIONS = STRANGE + (
    0, 1, -1, (), (1,), (1, 1, 1), [1, 2], (2, 4), (0, 2), (1, 0), (0, 0), (1, -1), (0, -1), (-1, -2), (-2, 4),
    (True, 1), (1, True), (False, 1), (True, True), ("1", "2"), (1, None), (2 * 10**399, 4 * 10**399), ((1, 2), 1),
)

NO_LENGTHS = STRANGE + ((), (1,), (1, 1), 0, -1, 7, 10**399, -(10**399))

NO_LETTERS = STRANGE + (0, 1, 4, -2, 10**399, (), (2,), "2", [2])

NO_LETTER = STRANGE + (2, 3, -1, 10**399, -(10**399), (), (0,), "0", [0], (0, 1))

NO_WORDS = STRANGE + (
    0, 1, (3,), (-1,), (0, 3), (0, 1, 2, 3), (10**399,), (True,), (False,), (0, True), (0, False, 1), [0, 1],
    ((0,), (1,)), ("0",), (None,), ((0,),),
)

NO_SUMS = STRANGE + (
    0, 1, (0, 1), ((0,), (1, 1)), ((0, 1),), (((0,),),), (((0,), (1, 1), (1, 1)),), ([(0,), (1, 1)],), [((0,), (1, 1))],
    (([0], (1, 1)),), (((0,), [1, 1]),), (((3,), (1, 1)),), (((True,), (1, 1)),), (((0,), (True, 1)),), (((0,), 1),),
    (((0,), (0, 1)),), (((0,), (2, 4)),), (((0,), (1, 0)),), (((0,), (1, -1)),), (((0,), (0, 2)),), (((0,), (-1, -2)),),
    (((0,), (1, 1)), ((0,), (1, 1))), (((1,), (1, 1)), ((0,), (1, 1))), (((0,), (1, 1)), ((), (1, 1))),
    (((0, 0), (1, 1)), ((1,), (1, 1))), (((0,), (1, 1)), ((1,), (0, 1))),
    (((0,), (1, 1)), ((1, 0), (1, 1)), ((0, 1), (1, 1))), (((0,), (1, 1)), None), {(0,): (1, 1)}, ((((0,), (1, 1)),),),
)

NO_STEPS = STRANGE + (
    0, (0, 1), (0, (1, 1)), ((0,),), ((0, 1),), ((0, (1, 1), 1),), ([0, (1, 1)],), [(0, (1, 1))], ((0, [1, 1]),),
    ((3, (1, 1)),), ((-1, (1, 1)),), ((True, (1, 1)),), ((False, (1, 1)),), ((0, (2, 4)),), ((0, (1, 0)),),
    ((0, (1, -1)),), ((0, (True, 1)),), ((0, (1, True)),), (((0,), (1, 1)),), ((0, (1, 1)), (1, (0, 2))),
    ((0, (1, 1)), ((1, (1, 1)),)),
)

CELL = ((ONE,),)
EMPTY_CELL = ((NIL,),)

NO_TABLES = STRANGE + (
    (), 0, CELL, (CELL,), (CELL, CELL, CELL, CELL), [CELL, CELL], ([ONE], [ONE]), (CELL, [[ONE]]), (CELL, ([ONE],)),
    (CELL, (([1, 1],),)), ((), ()), (((),), ((),)), (CELL, ()), (CELL, ((),)), (CELL, ((ONE, ONE),)),
    (CELL, ((ONE,), (ONE,))), (CELL, ((ONE, ONE), (ONE, ONE))),
    (((ONE, ONE), (ONE,)), ((ONE, ONE), (ONE, ONE))), (CELL, CELL, ((ONE, ONE), (ONE, ONE))),
    (CELL, ((ONE, ONE), 7)), (CELL, (7, ((ONE, ONE),))), (None, CELL), (True, CELL, CELL), (0, CELL), (Hostile(), CELL),
    (None, None, CELL), (Hostile(), Hostile()), (7, 7), ("a", CELL), (((ONE,), None), CELL), ((None,), CELL),
    (CELL, ((1,),)), (CELL, (((2, 4),),)), (CELL, (((1, 0),),)), (CELL, (((0, 0),),)), (CELL, (((1, -1),),)),
    (CELL, (((True, 1),),)), (CELL, (((1, True),),)), (CELL, CELL, None), (CELL, None), (CELL, Hostile()),
    (((NIL,) * 13,) * 13, ((NIL,) * 13,) * 13), (((NIL,) * 12,) * 13, ((NIL,) * 12,) * 13),
)


def with_each_place_changed(value, strange):
    """The value with the strange one in one place after the other, however deep, itself alone left out."""
    for at, part in enumerate(value):
        yield value[:at] + (strange,) + value[at + 1 :]
        if type(part) is tuple:
            for changed in with_each_place_changed(part, strange):
                yield value[:at] + (changed,) + value[at + 1 :]


def random_fraction(source, most=9):
    while True:
        upper, lower = source.randint(-most, most), source.randint(1, most)
        if gcd(upper, lower) == 1:
            return upper, lower


def random_number(source):
    """A fraction other than 0."""
    while True:
        number = random_fraction(source)
        if number != NIL:
            return number


def random_sum(source, letters, most, pairs, least=0):
    words = set()
    for _ in range(pairs):
        words.add(tuple(source.randrange(letters) for _ in range(source.randint(least, most))))
    found = [(word, random_fraction(source)) for word in sorted(words, key=lambda word: (len(word), word))]
    return tuple(pair for pair in found if pair[1] != NIL)


def random_table(source, many, closed):
    return tuple(
        tuple(NIL if closed and column <= row else random_fraction(source) for column in range(many))
        for row in range(many)
    )


def random_step(source, letters, pieces):
    return tuple((source.randrange(letters), random_fraction(source)) for _ in range(pieces))


def fixed_source(seed):
    return Random(seed)


def pair_of(number):
    return number.numerator, number.denominator


def table_as_pairs(rows):
    return tuple(tuple(pair_of(number) for number in row) for row in rows)


def table_as_numbers(table):
    return [[Fraction(*number) for number in row] for row in table]


def check_refused(case, function, arguments, name, values, error):
    """Each of the values in the place of one argument is refused, by position and by name, and kept as it is."""
    for value in values:
        wrong = dict(arguments)
        wrong[name] = value
        for call in (lambda: function(*wrong.values()), lambda: function(**wrong)):
            try:
                call()
            except error as raised:
                case.assertIs(type(raised), error)
                case.assertIs(raised.given, value)
            else:
                case.fail(f"{function.__name__}: {name} {type(value)} let")
