"""Running nets beat by beat, with signals and opened boxes."""

from unopened.errors import InvalidNumber, UnknownName, UnlikeKinds
from unopened.names import is_number
from unopened.parts import leads_of
from unopened.rings import in_order

MOST_BEATS = 200


def check_run(thing, signals, opened, beats):
    """Raises the errors of running a net or a sheet with these values."""
    if not is_number(beats, 0, MOST_BEATS):
        raise InvalidNumber(beats)
    kinds = thing.kinds()
    for name in sorted(thing.sources()):
        if name not in signals:
            raise UnknownName(name)
    for name in sorted(kinds):
        if name not in opened:
            raise UnknownName(name)
    for name in sorted(kinds):
        if not opened[name].fits(kinds[name]):
            raise UnlikeKinds(name)


def at_beat(row, beat):
    """The value of a row at a beat, which is 0 ahead of the row and behind it."""
    return row[beat] if 0 <= beat < len(row) else 0


class NetRun:
    """A net that runs beat by beat. A source that signals lacks has the value 0."""

    def __init__(self, net, signals, opened):
        parts = {part[1]: part for part in net.plain()}
        leads = {wire: leads_of(parts[wire]) for wire in parts}
        # Within a beat each wire is set behind those of which it needs the values of this beat.
        self._parts = [parts[wire] for wire in in_order(leads)]
        self._outs = net.outs()
        self._signals = {name: list(signals.get(name, [])) for name in net.sources()}
        self._opened = {name: opened[name] for name in net.kinds()}
        self._past = {wire: [] for wire in parts}
        self._pairs = {wire: [] for wire in parts}
        self._beat = 0

    def step(self):
        """Runs one beat, and returns the list of the outputs."""
        for part in self._parts:
            value = self._value_of(part)
            self._past[part[1]].append(value)
        self._beat = self._beat + 1
        return [self._past[wire][-1] for wire in self._outs]

    def past(self, wire):
        """The list of the values of a wire so far."""
        return list(self._past[wire])

    def _value_of(self, part):
        """The value of the wire of a part at this beat."""
        kind, wire, *items = part
        if kind == "source":
            return at_beat(self._signals[wire], self._beat)
        if kind == "mix":
            return sum([factor * at_beat(self._past[end], self._beat - delay) for factor, delay, end in items[0]])
        box = self._opened[items[0]]
        if kind != "pair":
            return box.reply(self._past[items[1]])
        self._pairs[wire].append((self._past[items[1]][-1], self._past[items[2]][-1]))
        return box.reply(self._pairs[wire])


def run(net, signals, opened, beats):
    """The list of the lists of the outputs at each beat."""
    return list(rows(net, signals, opened, beats))


def rows(net, signals, opened, beats):
    """Goes through the lists of the outputs at each beat."""
    check_run(net, signals, opened, beats)
    live = NetRun(net, signals, opened)
    for _ in range(beats):
        outs = live.step()
        yield outs


def heard(net, wire, signals, opened, beats):
    """The list of the values of a wire of the plain net at each beat."""
    if wire not in net:
        raise UnknownName(wire)
    check_run(net, signals, opened, beats)
    live = NetRun(net, signals, opened)
    for _ in range(beats):
        live.step()
    return live.past(wire)
