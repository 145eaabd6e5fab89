"""Runs of sheets in which values are sums of whole multiples of symbols.

A value is here the tuple of its pairs (symbol, factor), ascending, with factors other than 0; the empty one is 0.
"""

from unopened.flow import sheet_leads
from unopened.polynomials import expanded
from unopened.rings import in_order
from unopened.tables import boxes_with_groups

# So many numbers of a series are worked out at least; behind them twice as many as are needed.
SHORTEST = 16


def value_of(total):
    """The value by a dict from symbols to factors."""
    return tuple([(symbol, total[symbol]) for symbol in sorted(list(total)) if total[symbol] != 0])


def opposite(value):
    """The value times -1."""
    return tuple([(symbol, -factor) for symbol, factor in value])


def difference(one, other):
    """The difference of two values."""
    total = {symbol: factor for symbol, factor in one}
    for symbol, factor in other:
        total[symbol] = total.get(symbol, 0) - factor
    return value_of(total)


def key_of(kind, values, before):
    """What a box of this kind asks with these values at its ends, and the sign of the answer; None for the answer 0.

    A row that a keep has heard is told by its last value and by the symbol before, that of the row without it.
    """
    if kind == "keep" and before is not None:
        return (before, values[0]), 1
    if not any(values):
        return None, 1
    if kind == "keep":
        return (None, values[0]), 1
    if kind == "pair":
        return tuple(sorted(values)), 1
    if kind == "odd" and values[0][0][1] < 0:
        return (opposite(values[0]),), -1
    return (values[0],), 1


class Numbers:
    """The numbers other than 0 in the row of a series."""

    def __init__(self, series):
        self._top = series.top()
        self._bottom = series.bottom()
        self._length = 0
        self._found = []

    def until(self, most):
        """The list of the pairs (index, number) with an index up to most."""
        if most >= self._length:
            self._length = SHORTEST + 2 * most
            row = expanded(self._top, self._bottom, self._length)
            self._found = [(k, number) for k, number in enumerate(row) if number != 0]
        return [(k, number) for k, number in self._found if k <= most]


class SymbolRun:
    """A free run of a sheet, by the groups of its boxes.

    Attributes: length, the number of beats so far; many, the number of symbols so far; asked, for each group the dict
    from what its boxes asked to the symbols of the answers; came, a dict from the sources to their rows of pairs
    (symbol, 1).
    """

    def __init__(self, sheet, found):
        self.length = 0
        self.many = 0
        self.asked = [{} for _ in found]
        self.came = {name: [] for name in sheet.sources()}
        self._boxes = boxes_with_groups(sheet, found)
        self._order = in_order(sheet_leads(sheet.boxes()))
        # For each box its answers so far, pairs (symbol, sign), or None for 0.
        self._said = [[] for _ in self._boxes]
        self._ends = [[self._flows_of(end) for end in ends] for _, _, _, ends in self._boxes]
        self._outs = [self._flows_of(out) for out in sheet.outs()]

    def step(self):
        """Runs one beat, and returns the list of the values of the outputs."""
        for name in list(self.came):
            self.came[name].append((self._new_symbol(), 1))
        for index in self._order:
            answer = self._answer_of(index)
            self._said[index].append(answer)
        outs = [self._sum_of(flows) for flows in self._outs]
        self.length = self.length + 1
        return outs

    def _flows_of(self, form):
        """The pairs of the series of a form and the rows that they belong to, which grow beat by beat."""
        from_sources = [(Numbers(form.source(name)), self.came[name]) for name in form.sources()]
        return [*from_sources, *[(Numbers(form.box(index)), self._said[index]) for index in form.boxes()]]

    def _new_symbol(self):
        """The next symbol."""
        self.many = self.many + 1
        return self.many - 1

    def _sum_of(self, flows):
        """The value of a form at this beat."""
        total = {}
        for numbers, row in flows:
            for k, number in numbers.until(self.length):
                said = row[self.length - k]
                if said is not None:
                    symbol, sign = said
                    total[symbol] = total.get(symbol, 0) + sign * number
        return value_of(total)

    def _answer_of(self, index):
        """What a box answers at this beat."""
        group, kind, dead, _ = self._boxes[index]
        if dead:
            return None
        said = self._said[index]
        before = said[-1][0] if said and said[-1] is not None else None
        key, sign = key_of(kind, [self._sum_of(flows) for flows in self._ends[index]], before)
        if key is None:
            return None
        if key not in self.asked[group]:
            self.asked[group][key] = self._new_symbol()
        return self.asked[group][key], sign
