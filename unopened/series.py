"""Series: quotients of polynomials in z, each one standing for an endless row of numbers."""

from unopened.errors import InvalidNumber, InvalidSeries, NoInverse, TooEarly
from unopened.names import is_integer, is_number
from unopened.polynomials import expanded, order_of, product_of, reduced, sum_of

MOST_BEATS = 1000


def is_row(value):
    """Whether any value is a list or tuple of numbers."""
    return isinstance(value, (list, tuple)) and all([is_integer(item) for item in value])


def decimal(number):
    """The decimal digits of a number."""
    # Python's own str refuses numbers of more than 4300 digits, which products of series can have.
    rest = abs(number)
    ends = []
    while rest >= 10 ** 64:
        rest, end = divmod(rest, 10 ** 64)
        ends.append(str(end).zfill(64))
    sign = "-" if number < 0 else ""
    tail = "".join(reversed(ends))
    return f"{sign}{rest}{tail}"


def row_text(row):
    """A list of numbers as Python writes it."""
    items = ", ".join([decimal(number) for number in row])
    return f"[{items}]"


def as_series(value):
    """The series that a series or a number stands for, None for any other value."""
    if isinstance(value, Series):
        return value
    return Series([value]) if is_integer(value) else None


def delayed(series, beats):
    """A series late by any number of beats."""
    return Series([0] * beats + series.top(), series.bottom())


def hastened(series, beats):
    """A series earlier by any number of beats that is at most its order."""
    return Series(series.top()[beats:], series.bottom())


class Series:
    """A quotient of two polynomials, always kept in its reduced form."""

    def __init__(self, top, bottom=(1,)):
        if not is_row(top) or not is_row(bottom) or not bottom or bottom[0] != 1:
            raise InvalidSeries()
        self._top, self._bottom = reduced(top, bottom)
        self.order = order_of(self._top)

    @staticmethod
    def delay(d):
        """z to the power d."""
        if not is_number(d, 0, MOST_BEATS):
            raise InvalidNumber(d)
        return Series([0] * d + [1])

    def top(self):
        """The coefficients of the top of the reduced form."""
        return list(self._top)

    def bottom(self):
        """The coefficients of the bottom of the reduced form."""
        return list(self._bottom)

    def coefficient(self, k):
        """The number with the index k in the endless row."""
        if not is_number(k, 0, MOST_BEATS):
            raise InvalidNumber(k)
        return expanded(self._top, self._bottom, k + 1)[k]

    def first(self, n):
        """The first n numbers of the endless row."""
        if not is_number(n, 0, MOST_BEATS):
            raise InvalidNumber(n)
        return expanded(self._top, self._bottom, n)

    def inverse(self):
        """The series that multiplied with this one gives 1."""
        if self.order != 0 or self._top[0] not in (1, -1):
            raise NoInverse()
        sign = self._top[0]
        return Series([sign * value for value in self._bottom], [sign * value for value in self._top])

    def __add__(self, other):
        added = as_series(other)
        if added is None:
            return NotImplemented
        top = sum_of(product_of(self._top, added._bottom), product_of(added._top, self._bottom))
        return Series(top, product_of(self._bottom, added._bottom))

    def __radd__(self, other):
        return self + other

    def __sub__(self, other):
        taken = as_series(other)
        if taken is None:
            return NotImplemented
        return self + (-taken)

    def __rsub__(self, other):
        return (-self) + other

    def __mul__(self, other):
        times = as_series(other)
        if times is None:
            return NotImplemented
        return Series(product_of(self._top, times._top), product_of(self._bottom, times._bottom))

    def __rmul__(self, other):
        return self * other

    def __neg__(self):
        return Series([-value for value in self._top], self._bottom)

    def __lshift__(self, other):
        if not is_number(other, 0, MOST_BEATS):
            raise InvalidNumber(other)
        return delayed(self, other)

    def __rshift__(self, other):
        if not is_number(other, 0, MOST_BEATS):
            raise InvalidNumber(other)
        if self.order is not None and self.order < other:
            raise TooEarly(self.order)
        return hastened(self, other)

    def __eq__(self, other):
        return isinstance(other, Series) and self._top == other._top and self._bottom == other._bottom

    def __bool__(self):
        return self.order is not None

    def __repr__(self):
        return f"Series({row_text(self._top)}, {row_text(self._bottom)})"
