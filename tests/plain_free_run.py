"""A free run of plain nets, worked out straight from [13] of the document, for tests to compare with.

A value is a tuple of pairs (symbol, factor), ascending, with factors other than 0.
"""


class PlainFreeRun:
    def __init__(self, net, found, symbols):
        self.parts = {part[1]: part for part in net.plain()}
        self.outs = net.outs()
        self.groups = {name: group for group in found for name in group[0]}
        # Both runs that are compared share their symbols.
        self.symbols = symbols
        self.past = []

    def symbol(self, *key):
        return ((self.symbols.setdefault(key, len(self.symbols)), 1),)

    def value(self, wire, now):
        if wire not in now:
            now[wire] = self.made(self.parts[wire], now)
        return now[wire]

    def made(self, part, now):
        kind, wire, *items = part
        if kind == "source":
            return self.symbol("source", wire, len(self.past))
        if kind == "mix":
            return self.mixed(items[0], now)
        names, kind, dead = self.groups[items[0]]
        values = [self.value(end, now) for end in items[1:]]
        if dead:
            return ()
        if kind == "pair":
            return self.symbol(names, *sorted(values)) if any(values) else ()
        if kind == "keep":
            row = [beat[items[1]] for beat in self.past] + values
            while row and not row[0]:
                row = row[1:]
            return self.symbol(names, *row) if row else ()
        value = values[0]
        if kind == "odd" and value and value[0][1] < 0:
            return tuple((symbol, -factor) for symbol, factor in self.symbol(names, opposite(value)))
        return self.symbol(names, value) if value else ()

    def mixed(self, terms, now):
        total = {}
        for times, delay, end in terms:
            if delay <= len(self.past):
                value = self.past[-delay][end] if delay else self.value(end, now)
                for symbol, factor in value:
                    total[symbol] = total.get(symbol, 0) + times * factor
        return tuple(sorted((symbol, factor) for symbol, factor in total.items() if factor))

    def step(self):
        now = {}
        for wire in self.parts:
            self.value(wire, now)
        self.past.append(now)
        return [now[wire] for wire in self.outs]


def opposite(value):
    return tuple((symbol, -factor) for symbol, factor in value)


def first_difference(one, other, found, beats):
    """The first beat, of so many ones, at which the outputs of two nets differ in a free run, or None."""
    symbols = {}
    first, second = PlainFreeRun(one, found, symbols), PlainFreeRun(other, found, symbols)
    for beat in range(beats):
        if first.step() != second.step():
            return beat
    return None
