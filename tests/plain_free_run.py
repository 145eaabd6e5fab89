"""Free runs of plain nets and of sheets, worked out straight from [13] of the document, for tests to compare with.

A value is a tuple of pairs (symbol, factor), ascending, with factors other than 0.
"""


class PlainFreeRun:
    def __init__(self, net, found, symbols):
        self.parts = {part[1]: part for part in net.plain()}
        self.outs = net.outs()
        self.groups = {name: group for group in found for name in group[0]}
        # Both runs that are compared share their symbols.
        self.symbols = symbols
        self.past = []

    def symbol(self, *key):
        return ((self.symbols.setdefault(key, len(self.symbols)), 1),)

    def value(self, wire, now):
        if wire not in now:
            now[wire] = self.made(self.parts[wire], now)
        return now[wire]

    def made(self, part, now):
        kind, wire, *items = part
        if kind == "source":
            return self.symbol("source", wire, len(self.past))
        if kind == "mix":
            return self.mixed(items[0], now)
        names, kind, dead = self.groups[items[0]]
        values = [self.value(end, now) for end in items[1:]]
        if dead:
            return ()
        if kind == "pair":
            return self.symbol(names, *sorted(values)) if any(values) else ()
        if kind == "keep":
            row = [beat[items[1]] for beat in self.past] + values
            while row and not row[0]:
                row = row[1:]
            return self.symbol(names, *row) if row else ()
        value = values[0]
        if kind == "odd" and value and value[0][1] < 0:
            return tuple((symbol, -factor) for symbol, factor in self.symbol(names, opposite(value)))
        return self.symbol(names, value) if value else ()

    def mixed(self, terms, now):
        total = {}
        for times, delay, end in terms:
            if delay <= len(self.past):
                value = self.past[-delay][end] if delay else self.value(end, now)
                for symbol, factor in value:
                    total[symbol] = total.get(symbol, 0) + times * factor
        return tuple(sorted((symbol, factor) for symbol, factor in total.items() if factor))

    def step(self):
        now = {}
        for wire in self.parts:
            self.value(wire, now)
        self.past.append(now)
        return [now[wire] for wire in self.outs]


def opposite(value):
    return tuple((symbol, -factor) for symbol, factor in value)


def first_difference(one, other, found, beats):
    """The first beat, of so many ones, at which the outputs of two nets differ in a free run, or None."""
    symbols = {}
    first, second = PlainFreeRun(one, found, symbols), PlainFreeRun(other, found, symbols)
    for beat in range(beats):
        if first.step() != second.step():
            return beat
    return None


def added(total, times, value):
    for symbol, factor in value:
        total[symbol] = total.get(symbol, 0) + times * factor


class PlainSheetRun:
    """The free run of a sheet. Its symbols have the numbers that the document tells; heard has for each symbol the
    pairs (source, beat) that it goes back to."""

    def __init__(self, sheet, found):
        self.sheet = sheet
        self.groups = {name: group for group in found for name in group[0]}
        self.symbols = {}
        self.heard = []
        self.past = []
        self.ends = [[] for _ in sheet.boxes()]

    def symbol(self, key, heard):
        if key not in self.symbols:
            self.symbols[key] = len(self.symbols)
            self.heard.append(set(heard))
        return ((self.symbols[key], 1),)

    def value(self, form):
        total = {}
        for key in form.sources() + form.boxes():
            series = form.source(key) if isinstance(key, str) else form.box(key)
            for k, number in enumerate(series.first(len(self.past))):
                if number:
                    added(total, number, self.past[len(self.past) - 1 - k][key])
        return tuple(sorted((symbol, factor) for symbol, factor in total.items() if factor))

    def step(self):
        now = {}
        self.past.append(now)
        for source in self.sheet.sources():
            place = (source, len(self.past) - 1)
            now[source] = self.symbol(place, [place])
        boxes = self.sheet.boxes()
        waiting = list(range(len(boxes)))
        while waiting:
            index = next(index for index in waiting if not any(
                end.box(other).order == 0 for end in boxes[index][2] for other in waiting))
            waiting.remove(index)
            now[index] = self.answer(index)
        return [list(self.value(out)) for out in self.sheet.outs()]

    def answer(self, index):
        _, name, ends = self.sheet.boxes()[index]
        names, kind, dead = self.groups[name]
        values = [self.value(end) for end in ends]
        self.ends[index].append(values[0])
        sign = 1
        if kind == "keep":
            values = list(self.ends[index])
            while values and not values[0]:
                values = values[1:]
        if kind == "odd" and values[0] and values[0][0][1] < 0:
            sign, values = -1, [opposite(values[0])]
        if kind == "pair":
            values = sorted(values)
        if dead or not any(values):
            return ()
        heard = set().union(*[self.heard[symbol] for value in values for symbol, _ in value])
        return tuple((symbol, sign) for symbol, _ in self.symbol((names, *values), heard))
