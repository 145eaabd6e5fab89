"""Steps that can be undone and redone, between states that do not change."""

from unopened.errors import NothingLeft


class Steps:
    """A state, those that it came from, and those that were undone. Its attribute now is the state."""

    def __init__(self, state):
        self.now = state
        self._before = []
        self._undone = []

    def go_to(self, state):
        """Makes a step to another state."""
        self._before.append(self.now)
        self._undone = []
        self.now = state

    def go_back(self):
        """Undoes a step."""
        if not self._before:
            raise NothingLeft()
        self._undone.append(self.now)
        self.now = self._before.pop()

    def go_again(self):
        """Redoes a step."""
        if not self._undone:
            raise NothingLeft()
        self._before.append(self.now)
        self.now = self._undone.pop()

    def counts(self):
        """The pair of the numbers of steps that can be undone and redone."""
        return (len(self._before), len(self._undone))

    def forked(self):
        """The same steps, which go on apart."""
        made = Steps(self.now)
        made._before = list(self._before)
        made._undone = list(self._undone)
        return made
