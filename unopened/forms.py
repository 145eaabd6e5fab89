"""Forms: sums of series times sources and boxes."""

from unopened.errors import InvalidForm, InvalidNumber, TooEarly
from unopened.names import is_integer, is_name, is_number
from unopened.series import MOST_BEATS, Series, as_series, delayed, hastened


def are_sources(value):
    """Whether any value is a dict from names to series."""
    return isinstance(value, dict) and all([is_name(key) and isinstance(value[key], Series) for key in value])


def are_boxes(value):
    """Whether any value is a dict from indexes of boxes to series."""
    if not isinstance(value, dict):
        return False
    return all([is_integer(key) and key >= 0 and isinstance(value[key], Series) for key in value])


def not_zero(table):
    """The entries of a dict of series that are not zero."""
    return {key: table[key] for key in table if table[key].order is not None}


def sum_of_tables(one, other):
    """The sums of the series of two dicts; what one of them lacks is zero."""
    made = dict(one)
    for key in other:
        made[key] = made[key] + other[key] if key in made else other[key]
    return made


def late(form, beats):
    """A form late by any number of beats."""
    return Form({key: delayed(form.source(key), beats) for key in form.sources()},
                {key: delayed(form.box(key), beats) for key in form.boxes()})


def early(form, beats):
    """A form earlier by a number of beats that is at most its order."""
    return Form({key: hastened(form.source(key), beats) for key in form.sources()},
                {key: hastened(form.box(key), beats) for key in form.boxes()})


class Form:
    """A series for some sources and some boxes; all others have the series zero."""

    def __init__(self, sources=None, boxes=None):
        for_sources = {} if sources is None else sources
        for_boxes = {} if boxes is None else boxes
        if not are_sources(for_sources) or not are_boxes(for_boxes):
            raise InvalidForm()
        self._sources = not_zero(for_sources)
        self._boxes = not_zero(for_boxes)
        orders = [*[series.order for series in self._sources.values()],
                  *[series.order for series in self._boxes.values()]]
        self.order = min(orders, default=None)

    def source(self, name):
        """The series of a source, zero for any value that is none of the form."""
        return self._sources[name] if is_name(name) and name in self._sources else Series([])

    def box(self, index):
        """The series of a box, zero for any value that is none of the form."""
        return self._boxes[index] if is_integer(index) and index in self._boxes else Series([])

    def sources(self):
        """The ascending list of the sources whose series are not zero."""
        return sorted(list(self._sources))

    def boxes(self):
        """The ascending list of the indexes of the boxes whose series are not zero."""
        return sorted(list(self._boxes))

    def __add__(self, other):
        if not isinstance(other, Form):
            return NotImplemented
        return Form(sum_of_tables(self._sources, other._sources), sum_of_tables(self._boxes, other._boxes))

    def __sub__(self, other):
        if not isinstance(other, Form):
            return NotImplemented
        return self + (-other)

    def __neg__(self):
        return self * (-1)

    def __mul__(self, other):
        times = as_series(other)
        if times is None:
            return NotImplemented
        return Form({key: self._sources[key] * times for key in self._sources},
                    {key: self._boxes[key] * times for key in self._boxes})

    def __lshift__(self, other):
        if not is_number(other, 0, MOST_BEATS):
            raise InvalidNumber(other)
        return late(self, other)

    def __rshift__(self, other):
        if not is_number(other, 0, MOST_BEATS):
            raise InvalidNumber(other)
        if self.order is not None and self.order < other:
            raise TooEarly(self.order)
        return early(self, other)

    def __eq__(self, other):
        return isinstance(other, Form) and self._sources == other._sources and self._boxes == other._boxes

    def __bool__(self):
        return self.order is not None

    def __repr__(self):
        sources = " ".join(self.sources()) if self._sources else "-"
        return f"Form({sources}, {len(self._boxes)} boxes)"
