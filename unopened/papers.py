"""Papers: answers about two nets or sheets, which can be checked."""

from unopened.boxes import Box
from unopened.closing import closes, table_of
from unopened.copies import copied, listed, listed_values, listed_within
from unopened.errors import InvalidFact, TooMany, UnlikeKinds
from unopened.facts import groups, keeps
from unopened.flow import SheetRun
from unopened.names import is_integer, is_name, is_number
from unopened.running import NetRun
from unopened.sheets import Sheet, joined
from unopened.tables import boxes_with_groups

MOST_BEAT = 10000


def sheet_and_groups(one, other, facts):
    """The joint sheet and the groups of two things, or None and [] if they cannot be compared under any value."""
    if len(one.outs()) == len(other.outs()) and isinstance(facts, list):
        try:
            return joined(one, other), groups([one, other], facts)
        except (InvalidFact, UnlikeKinds, TooMany):
            return None, []
    return None, []


def are_signals(value, sources):
    """Whether any value is a dict from names to lists of numbers, with one for each of the sources."""
    if not isinstance(value, dict) or not all([is_name(key) for key in value]):
        return False
    for row in value.values():
        if not isinstance(row, list) or not all([is_integer(item) for item in row]):
            return False
    return all([name in value for name in sources])


def are_opened(value, kinds):
    """Whether any value is a dict to opened boxes, with one that fits for each box of these kinds."""
    if not isinstance(value, dict) or not all([isinstance(box, Box) for box in value.values()]):
        return False
    return all([name in value and value[name].fits(kinds[name]) for name in kinds])


def run_of(thing, signals, opened):
    """A run of a net or a sheet."""
    return SheetRun(thing, signals, opened) if isinstance(thing, Sheet) else NetRun(thing, signals, opened)


class Paper:
    """The base class of all papers: it shows nothing."""

    KIND = "open"

    def __init__(self, one, other, *, facts=()):
        self.one = one
        self.other = other
        self._facts = listed(facts)

    def facts(self):
        """The facts."""
        return copied(self._facts)

    def told(self):
        """What it tells."""
        return self.KIND

    def holds(self):
        """Whether it shows what it tells."""
        return False

    def __bool__(self):
        return False

    def __repr__(self):
        return f"Paper({self.told()})"


class Alike(Paper):
    """A paper that shows by a table that both are alike."""

    KIND = "alike"

    def __init__(self, one, other, classes, silent, *, facts=()):
        super().__init__(one, other, facts=facts)
        self._classes = listed_within(classes)
        self._silent = listed(silent)

    def facts(self):
        """The facts."""
        return copied(self._facts)

    def classes(self):
        """The list of the lists of the members of the classes."""
        return copied(self._classes)

    def silent(self):
        """The list of the indexes of the silent boxes."""
        return copied(self._silent)

    def told(self):
        """What it tells."""
        many = len(self._classes) if isinstance(self._classes, list) else 0
        return f"{self.KIND} {many}"

    def holds(self):
        """Whether the table closes, under these facts."""
        sheet, found = sheet_and_groups(self.one, self.other, self._facts)
        if sheet is None:
            return False
        table = table_of(self._classes, self._silent, len(sheet))
        if table is None:
            return False
        outs = sheet.outs()
        half = len(self.one.outs())
        return closes(boxes_with_groups(sheet, found), list(zip(outs[:half], outs[half:])), table)

    def __bool__(self):
        return True

    def __repr__(self):
        return f"Paper({self.told()})"


class Parted(Paper):
    """A paper that shows by signals and opened boxes that both are not alike, and where they differ."""

    KIND = "parted"

    def __init__(self, one, other, beat, out, signals, opened, *, facts=()):
        super().__init__(one, other, facts=facts)
        self.beat = copied(beat)
        self.out = copied(out)
        self._signals = listed_values(signals)
        self._opened = listed_values(opened)

    def facts(self):
        """The facts."""
        return copied(self._facts)

    def signals(self):
        """The dict of the signals."""
        return copied(self._signals)

    def opened(self):
        """The dict of the opened boxes."""
        return copied(self._opened)

    def told(self):
        """What it tells."""
        beat = self.beat if is_integer(self.beat) else 0
        return f"{self.KIND} {beat}"

    def holds(self):
        """Whether both differ first at this beat, and at this output, with these signals and opened boxes."""
        sheet, _ = sheet_and_groups(self.one, self.other, self._facts)
        if sheet is None:
            return False
        if not is_number(self.beat, 0, MOST_BEAT) or not is_number(self.out, 0, len(self.one.outs()) - 1):
            return False
        if not are_signals(self._signals, sheet.sources()) or not are_opened(self._opened, sheet.kinds()):
            return False
        return keeps(self._opened, self._facts) and self._parts_at_the_beat()

    def _parts_at_the_beat(self):
        """Whether the outputs are equal ahead of the beat, and differ then."""
        one = run_of(self.one, self._signals, self._opened)
        other = run_of(self.other, self._signals, self._opened)
        for _ in range(self.beat):
            if one.step() != other.step():
                return False
        return one.step()[self.out] != other.step()[self.out]

    def __bool__(self):
        return False

    def __repr__(self):
        return f"Paper({self.told()})"
