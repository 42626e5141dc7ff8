"""The smallest root above 0 of a polynomial over whole numbers (flowpieces.polynomials) without double roots."""

from flowpieces.polynomials import poly_at, without_divisor


def stretched(numbers, upper, lower):
    """The polynomial that is at x what another one is at x times upper / lower, times a number above 0."""
    made = []
    factor = 1
    for number in numbers:
        made.append(number * factor)
        factor = factor * upper
    scale = 1
    for at in range(len(made) - 1, -1, -1):
        made[at] = made[at] * scale
        scale = scale * lower
    return made


def moved(numbers):
    """The polynomial that is at x what another one is at x + 1."""
    made = list(numbers)
    for start in range(len(made) - 1):
        for at in range(len(made) - 2, start - 1, -1):
            made[at] = made[at] + made[at + 1]
    return made


def sign_changes(numbers):
    """How often the signs of numbers change, those 0 left out."""
    signs = [number > 0 for number in numbers if number != 0]
    return sum([1 for first, second in zip(signs, signs[1:]) if first != second])


def most_roots(numbers):
    """How many roots lie between 0 and 1 at most; where this is 0 or 1, just so many lie there.

    Near enough to a root, and away from all of them, it is so.
    """
    # Descartes' rule for what stands at 1 / (x + 1).
    return sign_changes(moved(list(reversed(numbers))))


def first_root_place(numbers, most):
    """Two whole numbers and one below both: between them lies the smallest root from 0 to the most, and no other one.

    Both are the same if it is this number. The polynomial is not 0 at 0, and has a root below the most.
    """
    # Each place is told by the polynomial that has it between 0 and 1 and by two numbers, the first one over
    # the other one being its beginning; [] tells the beginning alone, which is a root then.
    places = [(stretched(numbers, most, 1), 0, 1)]
    while True:
        local, start, many = places.pop()
        if local == []:
            return start * most, start * most, many
        found = most_roots(local)
        if found == 1:
            return start * most, (start + 1) * most, many
        if found > 1:
            left = without_divisor(stretched(local, 1, 2))
            right = moved(left)
            places.append(([] if right[0] == 0 else right, 2 * start + 1, 2 * many))
            places.append((left, 2 * start, 2 * many))


def reaches_root(numbers, place, upper, lower):
    """Whether the fraction upper / lower is not above the smallest root, which lies in the place.

    The polynomial is above 0 ahead of the root, and below 0 behind it in the place.
    """
    start, end, many = place
    if upper * many <= start * lower:
        return True
    return upper * many < end * lower and poly_at(numbers, upper, lower) >= 0


def near_square_root(numbers, most, many):
    """The square root of the smallest root, near for a number.

    The polynomial is above 0 at 0, and the root is below the most.
    """
    place = first_root_place(numbers, most)
    low, high = 0, most * many
    while high - low > 1:
        middle = (low + high) // 2
        if reaches_root(numbers, place, middle * middle, many * many):
            low = middle
        else:
            high = middle
    return low, poly_at(numbers, low * low, many * many) == 0
