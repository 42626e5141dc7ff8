"""Polynomials over whole numbers: lists of their numbers, the lowest power first, the last one not 0."""

from math import gcd

# A prime number: over the whole numbers up to it polynomials are divided fast.
PRIME = 2**61 - 1


def trimmed(numbers):
    """A list of numbers without those 0 at its end."""
    many = len(numbers)
    while many > 0 and numbers[many - 1] == 0:
        many = many - 1
    return numbers[:many]


def poly_plus(first, second, factor):
    """A polynomial and another one times a factor, added."""
    many = max(len(first), len(second))
    longer = first + [0] * (many - len(first))
    others = second + [0] * (many - len(second))
    return trimmed([one + factor * two for one, two in zip(longer, others)])


def poly_times(first, second):
    """The product of two polynomials."""
    made = [0] * (len(first) + len(second))
    for at, one in enumerate(first):
        for behind, two in enumerate(second):
            made[at + behind] = made[at + behind] + one * two
    return trimmed(made)


def poly_slope(numbers):
    """The derivative of a polynomial."""
    return trimmed([power * number for power, number in enumerate(numbers)][1:])


def without_divisor(numbers):
    """A polynomial without the greatest whole number that divides all its numbers."""
    common = 0
    for number in numbers:
        common = gcd(common, number)
    return [number // common for number in numbers] if common > 1 else numbers


def poly_at(numbers, upper, lower):
    """A polynomial at the fraction upper / lower, times a number above 0 that makes it whole."""
    total = 0
    scale = 1
    for number in reversed(numbers):
        total = total * upper + number * scale
        scale = scale * lower
    return total


def poly_quotient(numbers, divisor):
    """What times the divisor is the polynomial, both without divisors; None if nothing over whole numbers is."""
    rest = list(numbers)
    made = [0] * max(0, len(numbers) - len(divisor) + 1)
    for at in range(len(made) - 1, -1, -1):
        top = rest[at + len(divisor) - 1]
        if top % divisor[-1] != 0:
            return None
        made[at] = top // divisor[-1]
        for power, number in enumerate(divisor):
            rest[at + power] = rest[at + power] - made[at] * number
    return made if trimmed(rest) == [] else None


def inverse(number):
    """What times a number, not 0, leaves 1 over PRIME."""
    ahead, behind = (PRIME, 0), (number, 1)
    while behind[0] != 0:
        many = ahead[0] // behind[0]
        ahead, behind = behind, (ahead[0] - many * behind[0], ahead[1] - many * behind[1])
    return ahead[1] % PRIME


def rest_over_prime(numbers, divisor):
    """What a polynomial leaves over a divisor that ends with 1, all of it over PRIME."""
    rest = list(numbers)
    many = len(divisor) - 1
    for at in range(len(rest) - 1, many - 1, -1):
        top = rest[at]
        for power in range(many):
            rest[at - many + power] = (rest[at - many + power] - top * divisor[power]) % PRIME
    return trimmed(rest[:many])


def are_surely_coprime(first, second):
    """Whether two polynomials have no common divisor over PRIME, and the first one keeps its highest power there.

    They have none at all then: it would be one over PRIME, of as high a power.
    """
    ahead = trimmed([number % PRIME for number in first])
    behind = trimmed([number % PRIME for number in second])
    if len(ahead) < len(first) or behind == []:
        return False
    while behind != []:
        factor = inverse(behind[-1])
        divisor = [number * factor % PRIME for number in behind]
        ahead, behind = divisor, rest_over_prime(ahead, divisor)
    return len(ahead) == 1


def poly_at_power(numbers, many):
    """A polynomial at the power `many` of 2."""
    total = 0
    for number in reversed(numbers):
        total = (total << many) + number
    return total


def digits_of(value, many):
    """The polynomial that is the value at the power `many` of 2, with numbers up to half of this."""
    base = 1 << many
    made = []
    while value != 0:
        digit = value & (base - 1)
        if 2 * digit > base:
            digit = digit - base
        made.append(digit)
        value = (value - digit) >> many
    return made


def common_divisor(first, second):
    """The greatest common divisor of two polynomials without divisors, neither of them nought.

    It is read off the greatest common divisor of their values at a number above twice the greatest
    number of one of them: what divides both then is it (Char, Geddes and Gonnet 1989).
    """
    if are_surely_coprime(first, second):
        return [1]
    many = 2 + min(max([number.bit_length() for number in first]), max([number.bit_length() for number in second]))
    while True:
        value = gcd(poly_at_power(first, many), poly_at_power(second, many))
        made = without_divisor(digits_of(value, many))
        if poly_quotient(first, made) is not None and poly_quotient(second, made) is not None:
            return made
        # Nearly each power does, the higher the sooner.
        many = many + 32


def factors_by_power(numbers):
    """Polynomials without double roots: the k-th one has the roots that are there just k times."""
    found = []
    rest = common_divisor(numbers, without_divisor(poly_slope(numbers)))
    roots = poly_quotient(numbers, rest)
    while len(roots) > 1:
        # All roots that are there once more.
        more = common_divisor(roots, rest)
        found.append(poly_quotient(roots, more))
        roots, rest = more, poly_quotient(rest, more)
    return found
