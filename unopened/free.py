"""Free runs: what a net or a sheet does if nothing is known of its signals and boxes."""

from unopened.facts import groups
from unopened.sheets import as_sheet
from unopened.symbols import SymbolRun


class FreeRun:
    """The free run of the sheet of one thing."""

    def __init__(self, thing, *, facts=()):
        found = groups([thing], facts)
        self._run = SymbolRun(as_sheet(thing), found)

    def step(self):
        """Runs one beat, and returns the list of the outputs, lists of pairs (symbol, factor)."""
        return [list(value) for value in self._run.step()]

    @property
    def beats(self):
        """How many beats were run."""
        return self._run.length

    @property
    def symbols(self):
        """How many symbols came so far."""
        return self._run.many

    def __len__(self):
        return len(range(self._run.length))

    def __bool__(self):
        return True

    def __repr__(self):
        return f"FreeRun({self._run.length} beats)"
