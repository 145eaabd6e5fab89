"""Series: reduced forms, rows, operators and errors."""

import inspect
import itertools
import unittest
from fractions import Fraction

from unopened.errors import InvalidNumber, InvalidSeries, NoInverse, TooEarly
from unopened.series import Series

HUGE = 10 ** 2999 + 7
NO_NUMBERS = [True, False, None, "", "1", [], [1], (1,), {}, Series([1])]
SAMPLES = [
    Series([]), Series([1]), Series([-3]), Series([0, 0, 2]), Series([1, -1]), Series([1], [1, -1]),
    Series([0, 1], [1, -1, -1]), Series([2, 5, 0, -1], [1, 0, 3]), Series([0, 0, 0, 1], [1, 2, 1]),
]


def times(one, other):
    """The product of two rows, worked out plainly."""
    made = [0] * (len(one) + len(other))
    for k, left in enumerate(one):
        for j, right in enumerate(other):
            made[k + j] += left * right
    return made


def trimmed(row):
    while row and row[-1] == 0:
        row = row[:-1]
    return list(row)


def remainder(row, by):
    row = [Fraction(value) for value in row]
    while len(row) >= len(by):
        factor = row[-1] / by[-1]
        for k in range(1, len(by) + 1):
            row[-k] -= factor * by[-k]
        row = trimmed(row)
    return row


def are_coprime(one, other):
    """Euclid's algorithm with fractions."""
    while other:
        one, other = other, remainder(one, other)
    return len(one) == 1


def numbers(many, most):
    """A fixed row of numbers from -most to most that looks like chance."""
    state = 12345 + many
    row = []
    for _ in range(many):
        state = (state * 1103515245 + 12345) % 2 ** 31
        row.append((state >> 8) % (2 * most + 1) - most)
    return row


class SeriesCase(unittest.TestCase):
    def shows(self, series, top, bottom):
        self.assertEqual([series.top(), series.bottom()], [top, bottom])

    def stands_for(self, series, top, bottom):
        """Whether the series is top / bottom, by what a reduced form is."""
        upper, lower = series.top(), series.bottom()
        self.assertEqual(trimmed(times(upper, bottom)), trimmed(times(lower, top)))
        self.assertEqual(lower[0], 1)
        self.assertEqual([upper, lower], [trimmed(upper), trimmed(lower)])
        self.assertTrue(are_coprime(lower, upper) if upper else lower == [1])

    def raises(self, error, call, **attributes):
        with self.assertRaises(error) as caught:
            call()
        self.assertIs(type(caught.exception), error)
        for name, value in attributes.items():
            self.assertIs(type(getattr(caught.exception, name)), type(value))
            self.assertEqual(getattr(caught.exception, name), value)


class TestForm(SeriesCase):
    def test_the_example_of_the_document(self):
        half = Series([0, 1], [1, -1])
        both = half - Series.delay(1)
        self.assertEqual(
            [both.top(), both.bottom(), both.order, both.first(4), (2 * half).coefficient(3),
             Series([1, -1]).inverse() == half >> 1],
            [[0, 0, 1], [1, -1], 2, [0, 0, 1, 1], 2, True],
        )

    def test_interface(self):
        self.assertEqual(str(inspect.signature(Series)), "(top, bottom=(1,))")
        self.assertIsInstance(Series.__dict__["delay"], staticmethod)
        for name, parameters in [("top", "(self)"), ("bottom", "(self)"), ("coefficient", "(self, k)"),
                                 ("first", "(self, n)"), ("inverse", "(self)"), ("delay", "(d)")]:
            self.assertIn(name, Series.__dict__)
            self.assertEqual(str(inspect.signature(inspect.getattr_static(Series, name).__func__
                                                   if name == "delay" else Series.__dict__[name])), parameters)
        for name in ["add", "radd", "sub", "rsub", "mul", "rmul", "neg", "lshift", "rshift", "eq", "bool", "repr"]:
            self.assertIn(f"__{name}__", Series.__dict__)
        series = Series(top=(2, 4), bottom=[1, 1])
        self.shows(series, [2, 4], [1, 1])
        self.assertEqual([series.coefficient(k=1), series.first(n=2)], [2, [2, 2]])
        self.shows(Series.delay(d=2), [0, 0, 1], [1])

    def test_lists_and_tuples(self):
        for top, bottom in itertools.product([[1, 2], (1, 2)], [[1, 3], (1, 3)]):
            self.shows(Series(top, bottom), [1, 2], [1, 3])
        self.shows(Series([5]), [5], [1])
        self.assertIs(type(Series((1,), (1, 2)).top()), list)
        self.assertIs(type(Series((1,), (1, 2)).bottom()), list)

    def test_zeros_at_the_ends(self):
        self.shows(Series([0, 1, 0, 2, 0, 0], [1, 0, 5, 0, 0]), [0, 1, 0, 2], [1, 0, 5])
        self.shows(Series([3, 0], [1, 0]), [3], [1])
        self.shows(Series([0, 0, 0, 4]), [0, 0, 0, 4], [1])

    def test_zero(self):
        for top in [[], (), [0], [0, 0, 0], [0] * 500]:
            for bottom in [[1], [1, 2], (1, -1, 0), [1] * 500]:
                zero = Series(top, bottom)
                self.shows(zero, [], [1])
                self.assertIsNone(zero.order)
                self.assertEqual([zero.first(3), zero.coefficient(5)], [[0, 0, 0], 0])

    def test_order(self):
        for top, order in [([1], 0), ([-2, 1], 0), ([0, 3], 1), ([0, 0, 0, -1], 3), ([0] * 499 + [1], 499)]:
            self.assertEqual(Series(top).order, order)
            self.assertEqual(Series(top, [1, 7, -2]).order, order)
            self.assertIs(type(Series(top).order), int)

    def test_common_factors(self):
        self.shows(Series([1, -1], [1, -1]), [1], [1])
        self.shows(Series([2, -2], [1, -1]), [2], [1])
        self.shows(Series([-1, 1], [1, -1]), [-1], [1])
        self.shows(Series([1, 0, -1], [1, -1]), [1, 1], [1])
        self.shows(Series([1, -1], [1, 0, -1]), [1], [1, 1])
        self.shows(Series([0, 6, 12], [1, 5, 6]), [0, 6], [1, 3])
        self.shows(Series([1, 1], [1, 3, 2]), [1], [1, 2])
        self.shows(Series([2, 4], [1, 3]), [2, 4], [1, 3])
        self.shows(Series([2, 4], [1, 2]), [2], [1])
        self.shows(Series([3, 2, -1], [1, 0, -1]), [3, -1], [1, -1])

    def test_a_factor_more_than_once(self):
        self.shows(Series([1, -2, 1], [1, -2, 1]), [1], [1])
        self.shows(Series([1, -2, 1], [1, -3, 3, -1]), [1], [1, -1])
        self.shows(Series([1, -3, 3, -1], [1, -2, 1]), [1, -1], [1])
        self.shows(Series(times([1, 2], times([1, -3], [1, -3])), times([1, 5], times([1, -3], [1, -3]))),
                   [1, 2], [1, 5])
        factor = [1, 1, 2]
        thrice = times(factor, times(factor, factor))
        self.shows(Series(times([3, 0, 1], thrice), times([1, -4], thrice)), [3, 0, 1], [1, -4])

    def test_a_factor_with_great_coefficients(self):
        factor = [1]
        for _ in range(80):
            factor = trimmed(times(factor, [1, -1]))
        self.assertGreater(max(factor), 2 ** 70)
        self.shows(Series(factor, factor), [1], [1])
        self.shows(Series(times(factor, [3, 1]), times(factor, [1, 1])), [3, 1], [1, 1])
        self.shows(Series(times(factor, factor[:60]), times(factor, [1, 0, 5])), factor[:60], [1, 0, 5])

    def test_a_factor_with_greater_coefficients_than_both(self):
        top, bottom = [1], [1]
        for k in range(1, 8):
            top = times(top, [1] + [0] * (k - 1) + [-1])
            bottom = times(bottom, [1] + [0] * (k + 2) + [-1])
        self.stands_for(Series(top, bottom), trimmed(top), trimmed(bottom))

    def test_small_series_of_every_shape(self):
        for a, b, c, d, e in itertools.product([-2, -1, 0, 1, 2], repeat=5):
            self.stands_for(Series([a, b, c], [1, d, e]), [a, b, c], [1, d, e])

    def test_values_in_common_that_are_no_factors(self):
        # Where z is 2 to the power k, both have values in common, but they have no factor.
        for k in range(1, 200):
            self.shows(Series([2 ** k + 2, 1], [1, 1]), [2 ** k + 2, 1], [1, 1])
            self.shows(Series([2 ** k, 1, 2], [1, 3, 2]), [2 ** k, 1, 2], [1, 3, 2])
            self.shows(Series([0, 2 ** k, -1], [1, 1, 3]), [0, 2 ** k, -1], [1, 1, 3])
        for many in range(2, 40):
            top = [many, 1] + [0] * (many - 2) + [2 * many]
            self.stands_for(Series(top, [1, 2, 3] * 3), top, [1, 2, 3] * 3)

    def test_numbers_of_3000_digits(self):
        self.shows(Series([HUGE, -HUGE], [1, -1]), [HUGE], [1])
        self.shows(Series([1, HUGE], [1, 2 * HUGE, HUGE * HUGE]), [1], [1, HUGE])
        self.shows(Series([HUGE, 1], [1, HUGE]), [HUGE, 1], [1, HUGE])

    def test_500_coefficients(self):
        self.shows(Series([1] + [0] * 498 + [-1], [1, -1]), [1] * 499, [1])
        self.shows(Series([1, -1], [1] + [0] * 498 + [-1]), [1], [1] * 499)
        top, bottom = numbers(500, 50), [1] + numbers(499, 60)
        series = Series(top, bottom)
        self.shows(series, trimmed(top), trimmed(bottom))
        factor = [1] + numbers(200, 9)
        shorter, lower = numbers(300, 50), [1] + numbers(299, 60)
        shared = Series(times(shorter, factor), times(lower, factor))
        self.shows(shared, trimmed(shorter), trimmed(lower))
        self.assertEqual(shared, Series(shorter, lower))

    def test_arguments_and_answers_are_copied(self):
        top, bottom = [1, 2, 0], [1, 3, 0]
        series = Series(top, bottom)
        self.assertEqual([top, bottom], [[1, 2, 0], [1, 3, 0]])
        top[0] = bottom[1] = 9
        series.top().append(5)
        series.bottom()[0] = 7
        series.first(3).clear()
        self.shows(series, [1, 2], [1, 3])
        self.assertEqual(series.first(3), [1, -1, 3])
        one = Series([1])
        one.bottom().append(4)
        Series([]).top().append(4)
        self.shows(Series([1]), [1], [1])
        self.shows(Series([]), [], [1])


class TestRefused(SeriesCase):
    def test_values_of_other_kinds(self):
        for value in [None, True, 1, 0, "", "12", {}, {0: 1}, {1: 1}, Series([1]), b"\x01"]:
            self.raises(InvalidSeries, lambda: Series(value))
            self.raises(InvalidSeries, lambda: Series([1], value))
            self.raises(InvalidSeries, lambda: Series(value, value))

    def test_one_wrong_item(self):
        for wrong in [True, False, None, "1", [1], (1,), {}, Series([1])]:
            self.raises(InvalidSeries, lambda: Series([wrong]))
            self.raises(InvalidSeries, lambda: Series([1, 2, wrong]))
            self.raises(InvalidSeries, lambda: Series((0, wrong, 0)))
            self.raises(InvalidSeries, lambda: Series([1], [1, wrong]))
            self.raises(InvalidSeries, lambda: Series([], (1, 2, wrong, 3)))

    def test_the_beginning_of_the_bottom(self):
        for bottom in [[], (), [0], [2], [-1], [0, 1], [2, 1], [True], [True, 2], ["1"], [None], [-1, 1]]:
            self.raises(InvalidSeries, lambda: Series([1], bottom))
            self.raises(InvalidSeries, lambda: Series([], bottom))
            self.raises(InvalidSeries, lambda: Series(bottom, bottom))


class TestRow(SeriesCase):
    def test_rows(self):
        self.assertEqual(Series([1], [1, -1]).first(5), [1, 1, 1, 1, 1])
        self.assertEqual(Series([0, 1], [1, -1, -1]).first(9), [0, 1, 1, 2, 3, 5, 8, 13, 21])
        self.assertEqual(Series([1, 2, 3]).first(5), [1, 2, 3, 0, 0])
        self.assertEqual(Series([1], [1, 2]).first(4), [1, -2, 4, -8])

    def test_the_bottom_times_the_row_gives_the_top(self):
        for series in SAMPLES:
            row = series.first(30)
            wanted = (series.top() + [0] * 30)[:30]
            self.assertEqual(times(series.bottom(), row)[:30], wanted)

    def test_first(self):
        fast = Series([0, 1], [1, -1, -1])
        self.assertEqual(fast.first(0), [])
        self.assertEqual(fast.first(1), [0])
        row = fast.first(1000)
        self.assertEqual(len(row), 1000)
        self.assertTrue(all(row[k] == row[k - 1] + row[k - 2] for k in range(2, 1000)))
        self.assertEqual(Series([1, 2]).first(1000), [1, 2] + [0] * 998)
        self.assertEqual(Series([]).first(1000), [0] * 1000)

    def test_coefficient(self):
        fast = Series([0, 1], [1, -1, -1])
        self.assertEqual([fast.coefficient(k) for k in range(10)], fast.first(10))
        self.assertEqual(Series([1], [1, -1]).coefficient(1000), 1)
        self.assertEqual(Series([1], [1, 1]).coefficient(999), -1)
        self.assertEqual(Series([4, 5]).coefficient(0), 4)
        self.assertEqual(Series([4, 5]).coefficient(1000), 0)
        self.assertEqual((Series([1]) << 1000).coefficient(1000), 1)

    def test_numbers_beyond_the_bounds(self):
        series = Series([1], [1, -1])
        for value in [-1, 1001, -1000, HUGE, *NO_NUMBERS]:
            self.raises(InvalidNumber, lambda: series.coefficient(value), value=value)
            self.raises(InvalidNumber, lambda: series.first(value), value=value)
            self.raises(InvalidNumber, lambda: Series.delay(value), value=value)
            self.raises(InvalidNumber, lambda: series << value, value=value)
            self.raises(InvalidNumber, lambda: series >> value, value=value)
            self.raises(InvalidNumber, lambda: Series([]) >> value, value=value)


class TestOperators(SeriesCase):
    def test_sums_differences_and_products_of_series(self):
        for one, other in itertools.product(SAMPLES, repeat=2):
            a, b, c, d = one.top(), one.bottom(), other.top(), other.bottom()
            left, right, below = times(a, d), times(c, b), times(b, d)
            self.stands_for(one + other, [x + y for x, y in itertools.zip_longest(left, right, fillvalue=0)], below)
            self.stands_for(one - other, [x - y for x, y in itertools.zip_longest(left, right, fillvalue=0)], below)
            self.stands_for(one * other, times(a, c), below)
            self.assertEqual((one + other).first(12), [x + y for x, y in zip(one.first(12), other.first(12))])
            self.assertEqual((one - other).first(12), [x - y for x, y in zip(one.first(12), other.first(12))])
            self.assertEqual((one * other).first(12), times(one.first(12), other.first(12))[:12])

    def test_the_reduced_form_of_results(self):
        self.shows(Series([1], [1, -1]) - Series([0, 1], [1, -1]), [1], [1])
        self.shows(Series([1, -1]) * Series([1], [1, -1]), [1], [1])
        self.shows(Series([1], [1, -1]) + Series([1], [1, 1]), [2], [1, 0, -1])
        self.shows(Series([1], [1, -1]) - Series([1], [1, -1]), [], [1])
        self.shows(Series([1], [1, -1]) * Series([]), [], [1])

    def test_numbers_on_either_side(self):
        for series in SAMPLES:
            for number in [0, 1, -1, 7, HUGE]:
                other = Series([number])
                self.assertEqual(series + number, series + other)
                self.assertEqual(number + series, other + series)
                self.assertEqual(series - number, series - other)
                self.assertEqual(number - series, other - series)
                self.assertEqual(series * number, series * other)
                self.assertEqual(number * series, other * series)
        series = Series([0, 2], [1, -1])
        self.shows(3 + series, [3, -1], [1, -1])
        self.shows(series + 3, [3, -1], [1, -1])
        self.shows(3 - series, [3, -5], [1, -1])
        self.shows(series - 3, [-3, 5], [1, -1])
        self.shows(-4 * series, [0, -8], [1, -1])
        self.shows(series * 0, [], [1])
        self.assertEqual(sum([Series([1]), Series([0, 1])]), Series([1, 1]))

    def test_opposites(self):
        for series in SAMPLES:
            self.shows(-series, [-value for value in series.top()], series.bottom())
            self.assertEqual(series + -series, Series([]))
            self.assertEqual(-series, 0 - series)

    def test_operators_change_nothing(self):
        one, other = Series([1, 2], [1, -3]), Series([0, 1], [1, 0, 2])
        results = [one + other, one - other, one * other, -one, one << 2, other >> 1, one + 1, 2 * one, one.inverse()]
        self.shows(one, [1, 2], [1, -3])
        self.shows(other, [0, 1], [1, 0, 2])
        self.assertEqual(one.order, 0)
        for result in results:
            self.assertIs(type(result), Series)
            result.top().append(1)
        self.shows(one, [1, 2], [1, -3])
        self.shows(one + 0, [1, 2], [1, -3])
        total = one
        total += other
        self.shows(one, [1, 2], [1, -3])
        self.assertEqual(total, one + other)

    def test_other_values_are_refused(self):
        for value in [None, "1", [1], {}]:
            for call in [lambda: Series([1]) + value, lambda: value + Series([1]), lambda: Series([1]) - value,
                         lambda: value - Series([1]), lambda: Series([1]) * value, lambda: value * Series([1])]:
                self.assertRaises(TypeError, call)

    def test_500_coefficients(self):
        a, b = numbers(500, 9), [1] + numbers(499, 8)
        c, d = numbers(500, 7), [1] + numbers(499, 6)
        one, other = Series(a, b), Series(c, d)
        self.assertEqual((one + other).first(600), [x + y for x, y in zip(one.first(600), other.first(600))])
        self.assertEqual(one * other, Series(times(a, c), times(b, d)))
        self.assertEqual(one + other - other, one)
        self.assertEqual(one - one, Series([]))


class TestShifts(SeriesCase):
    def test_delay(self):
        self.shows(Series.delay(0), [1], [1])
        self.shows(Series.delay(3), [0, 0, 0, 1], [1])
        self.shows(Series([1]).delay(1), [0, 1], [1])
        self.assertEqual([Series.delay(1000).order, Series.delay(1000).top()], [1000, [0] * 1000 + [1]])

    def test_late(self):
        for series in SAMPLES:
            self.assertEqual(series << 0, series)
            for d in [0, 1, 5, 1000]:
                self.shows(series << d, [0] * d + series.top() if series else [], series.bottom())
                self.assertEqual(series << d, series * Series.delay(d))
                self.assertEqual(series << d >> d, series)

    def test_early(self):
        series = Series([0, 0, 3, 1], [1, -2])
        self.assertEqual(series >> 0, series)
        self.shows(series >> 1, [0, 3, 1], [1, -2])
        self.shows(series >> 2, [3, 1], [1, -2])
        self.assertEqual((series >> 2).order, 0)
        self.raises(TooEarly, lambda: series >> 3, order=2)
        self.raises(TooEarly, lambda: series >> 1000, order=2)
        self.raises(TooEarly, lambda: Series([1]) >> 1, order=0)
        self.raises(InvalidNumber, lambda: series >> 1001, value=1001)
        self.raises(InvalidNumber, lambda: series >> -1, value=-1)

    def test_the_zero_series(self):
        for d in [0, 1, 1000]:
            self.shows(Series([]) >> d, [], [1])
            self.shows(Series([]) << d, [], [1])
            self.assertIsNone((Series([]) << d).order)


class TestInverse(SeriesCase):
    def test_inverses(self):
        self.shows(Series([1, -1]).inverse(), [1], [1, -1])
        self.shows(Series([1], [1, -1]).inverse(), [1, -1], [1])
        self.shows(Series([-1, 2], [1, 5]).inverse(), [-1, -5], [1, -2])
        self.shows(Series([1]).inverse(), [1], [1])
        self.shows(Series([-1]).inverse(), [-1], [1])
        for top, bottom in itertools.product([[1], [-1], [1, 2, 3], [-1, 0, 4]], [[1], [1, -7], [1, 0, 2]]):
            series = Series(top, bottom)
            self.assertEqual(series * series.inverse(), Series([1]))
            self.assertEqual(series.inverse().inverse(), series)

    def test_no_inverse(self):
        for top in [[], [0], [0, 1], [0, -1], [2], [-2], [2, 1], [HUGE]]:
            self.raises(NoInverse, lambda: Series(top).inverse())
            self.raises(NoInverse, lambda: Series(top, [1, 1]).inverse())


class TestEquality(SeriesCase):
    def test_equal_rows(self):
        for k, one in enumerate(SAMPLES):
            for j, other in enumerate(SAMPLES):
                self.assertIs(one == other, k == j)
                self.assertIs(one != other, k != j)
        self.assertIs(Series([1, -1], [1, 0, -1]) == Series([1], [1, 1]), True)
        self.assertIs(Series((0, 0), [1, 5]) == Series([]), True)
        self.assertIs(Series([1], [1, 1]) == Series([1], [1, -1]), False)
        self.assertIs(Series([1], [1, 1]) == Series([2], [1, 1]), False)

    def test_a_series_equals_nothing_else(self):
        for value in [None, True, False, 0, 1, "", "Series([1], [1])", [1], [], (1,), ([1], [1]), {}]:
            for series in [Series([1]), Series([])]:
                self.assertIs(series == value, False)
                self.assertIs(value == series, False)
                self.assertIs(series != value, True)

    def test_bool(self):
        self.assertIs(bool(Series([])), False)
        self.assertIs(bool(Series([0, 0], [1, 2])), False)
        self.assertIs(bool(Series([0, 0, 1])), True)
        self.assertIs(bool(Series([-1], [1, 2])), True)

    def test_repr(self):
        self.assertEqual(repr(Series([1, 2])), "Series([1, 2], [1])")
        self.assertEqual(repr(Series([])), "Series([], [1])")
        self.assertEqual(repr(Series([0, 1, 0, -1], [1, -1, 5])), "Series([0, 1, 0, -1], [1, -1, 5])")
        self.assertEqual(repr(Series((0, -10, 0), (1, 0, 12345678901234567890, 0))),
                         "Series([0, -10], [1, 0, 12345678901234567890])")
        self.assertEqual(repr(Series([2, -2], [1, -1])), "Series([2], [1])")
        self.assertEqual(str(Series([1], [1, 3])), "Series([1], [1, 3])")
        for number in [10 ** 63, 10 ** 64 - 1, 10 ** 64, 10 ** 64 + 1, 10 ** 128 - 1, 10 ** 128 + 50, HUGE]:
            self.assertEqual(repr(Series([number, -number])), f"Series([{number}, -{number}], [1])")

    def test_repr_of_numbers_that_python_does_not_write(self):
        square = Series([10 ** 2999]) * (-10 ** 2999)
        self.assertEqual(repr(square), "Series([-1" + "0" * 5998 + "], [1])")


if __name__ == "__main__":
    unittest.main()
