"""Running nets beat by beat, with signals and opened boxes."""

from unopened.errors import InvalidNumber, UnknownName
from unopened.names import is_number
from unopened.scenes import check_opened, first_scene

MOST_BEATS = 200


def check_run(thing, signals, opened, beats):
    """Raises the errors of running a net or a sheet with these values."""
    if not is_number(beats, 0, MOST_BEATS):
        raise InvalidNumber(beats)
    for name in sorted(thing.sources()):
        if name not in signals:
            raise UnknownName(name)
    check_opened(thing.kinds(), opened)


class NetRun:
    """A net that runs beat by beat. A source that signals lacks has the value 0."""

    def __init__(self, net, signals, opened):
        self._signals = {name: list(signals.get(name, [])) for name in net.sources()}
        self._scene = first_scene(net, {name: opened[name] for name in net.kinds()})

    def step(self):
        """Runs one beat, and returns the list of the outputs."""
        at = self._scene.results.length
        values = {name: row[at] for name, row in self._signals.items() if at < len(row)}
        self._scene = self._scene.run_on(values)
        return list(self._scene.results.ago(1))

    def past(self, wire):
        """The list of the values of a wire so far."""
        return self._scene.past_of(wire)


def run(net, signals, opened, beats):
    """The list of the lists of the outputs at each beat."""
    return list(rows(net, signals, opened, beats))


def rows(net, signals, opened, beats):
    """Goes through the lists of the outputs at each beat."""
    check_run(net, signals, opened, beats)
    live = NetRun(net, signals, opened)
    for _ in range(beats):
        outs = live.step()
        yield outs


def heard(net, wire, signals, opened, beats):
    """The list of the values of a wire of the plain net at each beat."""
    if wire not in net:
        raise UnknownName(wire)
    check_run(net, signals, opened, beats)
    live = NetRun(net, signals, opened)
    for _ in range(beats):
        live.step()
    return live.past(wire)
