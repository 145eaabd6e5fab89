"""Sessions: nets that run live while their parts are exchanged."""

from unopened.errors import InvalidDeed, UnknownName
from unopened.names import is_integer, is_name
from unopened.parts import is_part
from unopened.scenes import check_opened, first_scene
from unopened.steps import Steps


def are_values(value):
    """Whether any value is a dict from names to numbers."""
    return isinstance(value, dict) and all([is_name(key) and is_integer(value[key]) for key in value])


def is_deed(value):
    """Whether any value is a deed."""
    if not isinstance(value, tuple) or len(value) != 2:
        return False
    word, item = value
    if word == "beat":
        return are_values(item)
    if word == "put":
        return is_part(item) and item[0] != "use"
    return word == "drop"


def behind(scene, deed):
    """The scene behind a deed."""
    word, item = deed
    if word == "beat":
        return scene.run_on(item)
    if word == "put":
        return scene.with_part(item)
    return scene.without(item)


class Session:
    """A net without uses that runs live, with opened boxes."""

    def __init__(self, net, opened):
        self._opened = dict(opened)
        check_opened(net.kinds(), self._opened)
        self._steps = Steps(first_scene(net, self._opened))
        self._busy = False

    def do(self, *deeds):
        """Does all deeds, or none, as one step."""
        self._busy = True
        try:
            for at, deed in enumerate(deeds):
                if not is_deed(deed):
                    raise InvalidDeed(at)
            scene = self._steps.now
            for deed in deeds:
                scene = behind(scene, deed)
            if deeds:
                self._steps.go_to(scene)
        finally:
            self._busy = False

    def undo(self):
        """Takes the last step back."""
        self._steps.go_back()

    def redo(self):
        """Makes the step again that was undone last."""
        self._steps.go_again()

    def past(self, wire):
        """The list of the values of a wire at all beats so far."""
        if wire not in self.net:
            raise UnknownName(wire)
        return self._steps.now.past_of(wire)

    def heard(self):
        """The list of the lists of the outputs at all beats so far."""
        return [list(outs) for outs in self._steps.now.results.since(0)]

    def walk(self):
        """Goes through the pairs (beat, outputs) of the beats that there are when the first one is asked for."""
        for beat, outs in enumerate(self.heard()):
            yield beat, tuple(outs)

    @property
    def net(self):
        """The net as it is now."""
        return self._steps.now.plan.present

    @property
    def beats(self):
        """The number of beats so far."""
        return self._steps.now.results.length

    @property
    def busy(self):
        """Whether deeds are being done."""
        return self._busy

    def history(self):
        """The pair of the numbers of steps that can be undone and redone."""
        return self._steps.counts()

    def twin(self):
        """An independent session in the same state, with its history."""
        made = Session(self.net, self._opened)
        made._steps = self._steps.forked()
        return made

    def __len__(self):
        return len(range(self._steps.now.results.length))

    def __bool__(self):
        return True

    def __repr__(self):
        return f"Session({self._steps.now.results.length} beats)"
