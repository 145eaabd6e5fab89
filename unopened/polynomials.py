"""Polynomials in z with integer coefficients, as lists that begin with the coefficient of z to the power 0."""

from math import gcd

# Room for a factor that the two numbers in cancelled share by chance; it saves most second looks.
SPARE_BITS = 32


def trimmed(row):
    """The list of the coefficients without zeros at the end."""
    length = len(row)
    while length > 0 and row[length - 1] == 0:
        length = length - 1
    return list(row[:length])


def order_of(row):
    """The index of the first coefficient that is not 0, or None."""
    for k, value in enumerate(row):
        if value != 0:
            return k
    return None


def sum_of(one, other):
    """The sum of two polynomials."""
    made = [0 for _ in range(max(len(one), len(other)))]
    for k, value in enumerate(one):
        made[k] = value
    for k, value in enumerate(other):
        made[k] = made[k] + value
    return made


def product_of(one, other):
    """The product of two polynomials."""
    made = [0 for _ in range(len(one) + len(other))]
    for k, left in enumerate(one):
        if left != 0:
            for j, right in enumerate(other):
                made[k + j] = made[k + j] + left * right
    return made


def quotient_of(row, factor):
    """The quotient by a factor that begins with 1, or None if it does not divide the polynomial."""
    rest = list(row)
    made = []
    for k in range(len(row) - len(factor) + 1):
        times = rest[k]
        made.append(times)
        if times != 0:
            for j, value in enumerate(factor):
                rest[k + j] = rest[k + j] - times * value
    return made if order_of(rest) is None else None


def root_bits(row):
    """A number b such that the roots are below 2 to the power b; row does not end with 0."""
    # Fujiwara's bound: twice the greatest of the j-th roots of abs(row[last - j] / row[last]).
    last = len(row) - 1
    lead = row[last].bit_length() - 1
    return 2 + max([0] + [(row[last - j].bit_length() - lead) // j for j in range(1, last + 1)])


def value_at(row, bits):
    """The value of the polynomial where z is 2 to the power bits."""
    value = 0
    for coefficient in reversed(row):
        value = (value << bits) + coefficient
    return value


def digits_of(number, bits):
    """The polynomial with the least coefficients that has this value where z is 2 to the power bits."""
    base = 1 << bits
    made = []
    rest = number
    while rest != 0:
        digit = rest & (base - 1)
        if digit > base // 2:
            digit = digit - base
        made.append(digit)
        rest = (rest - digit) >> bits
    return made


def begun_with_one(row):
    """The polynomial divided by its first coefficient, which is not 0, or None if that leaves the integers."""
    first = row[0]
    if any([value // first * first != value for value in row]):
        return None
    return [value // first for value in row]


def cancelled(one, other):
    """The pair of both, one not zero and other beginning with 1, without their greatest common factor.

    Two whole numbers, the values of both at a great power of two, stand for the polynomials: the digits of the
    greatest common divisor are read as a polynomial. Where it divides both, it is their greatest common factor: if
    that one were greater by a factor h, then its value would divide the divisor too, and the value of h the first
    digit, which is at most half the power; but all roots of h are below half the power, so its value is above that.
    What the two values share beyond the factor has a bound, so a power that is great enough is reached.
    """
    bits = min(root_bits(one), root_bits(other)) + SPARE_BITS
    while True:
        divisor = gcd(value_at(one, bits), value_at(other, bits))
        # The value of other, and so the divisor, is odd, which makes its first digit odd, too.
        factor = begun_with_one(digits_of(divisor, bits))
        if factor is not None:
            left = quotient_of(one, factor)
            right = quotient_of(other, factor)
            if left is not None and right is not None:
                return left, right
        bits = 2 * bits


def reduced(top, bottom):
    """The pair of top and bottom without a common factor and without zeros at the end; bottom begins with 1."""
    upper = trimmed(top)
    lower = trimmed(bottom)
    if not upper:
        return [], [1]
    # z is no factor of the bottom, so the zeros ahead in the top stay.
    ahead = order_of(upper)
    if len(upper) == ahead + 1 or len(lower) == 1:
        return upper, lower
    left, right = cancelled(upper[ahead:], lower)
    return [0] * ahead + left, right


def expanded(top, bottom, length):
    """The first coefficients of the endless row with which the bottom, multiplied, gives the top."""
    made = []
    for k in range(length):
        value = top[k] if k < len(top) else 0
        for j in range(1, min(k + 1, len(bottom))):
            value = value - bottom[j] * made[k - j]
        made.append(value)
    return made
