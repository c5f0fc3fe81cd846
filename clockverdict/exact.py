"""Rationals: tuples (n, d) in lowest terms with d at least 1, and exact sums with them."""

from math import gcd, lcm

from clockverdict.errors import BadNumber, ZeroDivisor

ZERO = (0, 1)
ONE = (1, 1)
HALF = (1, 2)

_DIGITS = "0123456789"
_MOST_DIGITS = 9


def is_whole(value):
    """True if value is an integer and no boolean."""
    return isinstance(value, int) and not isinstance(value, bool)


def is_rational(value):
    """True if value is a tuple (n, d) in lowest terms with d at least 1."""
    if not isinstance(value, tuple) or len(value) != 2:
        return False
    n, d = value
    return is_whole(n) and is_whole(d) and d >= 1 and gcd(n, d) == 1


def rational(n, d=1):
    """The rational n divided by d."""
    if d == 0:
        raise ZeroDivisor()
    common = gcd(n, d)
    if d < 0:
        common = -common
    return (n // common, d // common)


def add(a, b):
    """a + b."""
    # Reduced by the divisors of the two denominators alone: this keeps long integers cheap.
    common = gcd(a[1], b[1])
    factor = b[1] // common
    n = a[0] * factor + b[0] * (a[1] // common)
    rest = gcd(n, common)
    return (n // rest, (a[1] // rest) * factor)


def subtract(a, b):
    """a - b."""
    return add(a, negate(b))


def multiply(a, b):
    """a * b."""
    return rational(a[0] * b[0], a[1] * b[1])


def negate(a):
    """-a."""
    return (-a[0], a[1])


def divide(a, b):
    """a / b."""
    return rational(a[0] * b[1], a[1] * b[0])


def distance(a, b):
    """The absolute value of a - b."""
    gap = subtract(a, b)
    return (abs(gap[0]), gap[1])


def compare(a, b):
    """-1, 0 or 1, as a is less than b, equal to it or greater."""
    left = a[0] * b[1]
    right = b[0] * a[1]
    if left == right:
        return 0
    return -1 if left < right else 1


def smaller(a, b):
    """The lesser one of a and b."""
    return a if compare(a, b) <= 0 else b


def larger(a, b):
    """The greater one of a and b."""
    return a if compare(a, b) >= 0 else b


def total(*parts):
    """The sum of all parts, zero without any."""
    result = ZERO
    for part in parts:
        result = add(result, part)
    return result


def weights_of(values):
    """The values times one common factor above zero, as integers."""
    factor = 1
    for n, d in values:
        factor = lcm(factor, d)
    return [n * (factor // d) for n, d in values]


def order_of(values):
    """The indexes of the values from the least value to the greatest, those of equal values ascending."""
    ranked = sorted([(weight, at) for at, weight in enumerate(weights_of(values))])
    return [at for weight, at in ranked]


def floor_of(a):
    """The greatest integer that is not above a."""
    return a[0] // a[1]


def rational_text(a):
    """The written form: n if d is 1, otherwise n/d."""
    n, d = a
    return str(n) if d == 1 else f"{n}/{d}"


def _is_row_of_digits(text):
    return 1 <= len(text) <= _MOST_DIGITS and all([sign in _DIGITS for sign in text])


def read_rational(text):
    """The rational with this written form, of at most nine digits above and below."""
    above, bar, below = text.partition("/")
    digits = above[1:] if above.startswith("-") else above
    if not _is_row_of_digits(digits):
        raise BadNumber(text)
    if bar and not _is_row_of_digits(below):
        raise BadNumber(text)
    value = (int(above), int(below) if bar else 1)
    # Only the written form itself gives its text back: no -0, no 07, no 2/4, no 3/1.
    if not is_rational(value) or rational_text(value) != text:
        raise BadNumber(text)
    return value
