"""Opened boxes: what a box answers, by a table and, where that has nothing, by a remainder."""

from unopened.errors import InvalidTable
from unopened.names import is_integer


def is_row(value):
    """Whether any value is a tuple of numbers that is not empty."""
    return isinstance(value, tuple) and len(value) > 0 and all([is_integer(item) for item in value])


def is_key(kind, key):
    """Whether any value may be a key in the table of an opened box of this kind."""
    if kind == "keep":
        return is_row(key) and key[0] != 0
    if kind == "pair":
        return is_row(key) and len(key) == 2 and key[0] <= key[1] and key != (0, 0)
    if not is_integer(key):
        return False
    if kind == "plain":
        return key != 0
    return kind == "open" or key > 0


def entries_of(kind, table):
    """A copy of the table of an opened box of this kind."""
    entries = {}
    if table is not None:
        for key in table:
            if not is_key(kind, key) or not is_integer(table[key]):
                raise InvalidTable(key)
            entries[key] = table[key]
    return entries


def copy_of(table):
    """A copy of a table."""
    return {key: table[key] for key in table}


def is_dead(table, line, curve, modulus):
    """Whether a box with these values answers 0 to everything."""
    return all([answer == 0 for answer in table.values()]) and line % modulus == 0 and curve % modulus == 0


def heard_in(row):
    """The row without the zeros ahead of the first other value."""
    # The test of the whole row is fast, and spares the loop as long as nothing was heard.
    if any(row):
        for at, value in enumerate(row):
            if value != 0:
                return row[at:]
    return []


class Box:
    """The base class of all opened boxes."""

    KIND = "open"

    def __init__(self, table=None, *, line=0, curve=0, modulus=1000):
        self._table = entries_of(self.KIND, table)
        self.line = line
        self.curve = curve
        self.modulus = modulus

    def table(self):
        """The table."""
        return copy_of(self._table)

    @property
    def dead(self):
        """Whether it answers 0 to everything."""
        return is_dead(self._table, self.line, self.curve, self.modulus)

    def fits(self, kind):
        """Whether it may stand in parts of this kind."""
        return False

    def reply(self, row):
        """The answer to the row of all values of the end up to this beat."""
        return 0

    def __call__(self, row):
        return self.reply(row)

    def __eq__(self, other):
        return (isinstance(other, Box) and self.KIND == other.KIND and self._table == other._table
                and self.line == other.line and self.curve == other.curve and self.modulus == other.modulus)

    def __repr__(self):
        return f"Box({len(self._table)} entries)"


class Plain(Box):
    """An opened box that looks at the value of its end at this beat alone."""

    KIND = "plain"

    def __init__(self, table=None, *, line=0, curve=0, modulus=1000):
        super().__init__(table, line=line, curve=curve, modulus=modulus)

    def table(self):
        """The table."""
        return copy_of(self._table)

    @property
    def dead(self):
        """Whether it answers 0 to everything."""
        return is_dead(self._table, self.line, self.curve, self.modulus)

    def fits(self, kind):
        """Whether it may stand in parts of this kind."""
        return kind in ("plain", "keep")

    def reply(self, row):
        """The answer to the row of all values of the end up to this beat."""
        value = row[-1]
        if value == 0:
            return 0
        if value in self._table:
            return self._table[value]
        return (self.line * value + self.curve * value * value) % self.modulus

    def __call__(self, row):
        return self.reply(row)

    def __eq__(self, other):
        return (isinstance(other, Box) and self.KIND == other.KIND and self._table == other._table
                and self.line == other.line and self.curve == other.curve and self.modulus == other.modulus)

    def __repr__(self):
        return f"Plain({len(self._table)} entries)"


class Odd(Plain):
    """A Plain that answers the opposite to the opposite value."""

    KIND = "odd"

    def __init__(self, table=None, *, line=0, curve=0, modulus=1000):
        super().__init__(table, line=line, curve=curve, modulus=modulus)

    def table(self):
        """The table."""
        return copy_of(self._table)

    @property
    def dead(self):
        """Whether it answers 0 to everything."""
        return is_dead(self._table, self.line, self.curve, self.modulus)

    def fits(self, kind):
        """Whether it may stand in parts of this kind."""
        return kind in ("odd", "plain", "keep")

    def reply(self, row):
        """The answer to the row of all values of the end up to this beat."""
        if row[-1] < 0:
            return -super().reply([-row[-1]])
        return super().reply(row)

    def __call__(self, row):
        return self.reply(row)

    def __eq__(self, other):
        return (isinstance(other, Box) and self.KIND == other.KIND and self._table == other._table
                and self.line == other.line and self.curve == other.curve and self.modulus == other.modulus)

    def __repr__(self):
        return f"Odd({len(self._table)} entries)"


class Keep(Box):
    """An opened box that looks at all values of its end since the first one other than 0."""

    KIND = "keep"

    def __init__(self, table=None, *, line=0, curve=0, modulus=1000):
        super().__init__(table, line=line, curve=curve, modulus=modulus)

    def table(self):
        """The table."""
        return copy_of(self._table)

    @property
    def dead(self):
        """Whether it answers 0 to everything."""
        return is_dead(self._table, self.line, self.curve, self.modulus)

    def fits(self, kind):
        """Whether it may stand in parts of this kind."""
        return kind == "keep"

    def reply(self, row):
        """The answer to the row of all values of the end up to this beat."""
        heard = heard_in(row)
        if not heard:
            return 0
        if tuple(heard) in self._table:
            return self._table[tuple(heard)]
        return (self.line * heard[-1] + self.curve * sum(heard)) % self.modulus

    def __call__(self, row):
        return self.reply(row)

    def __eq__(self, other):
        return (isinstance(other, Box) and self.KIND == other.KIND and self._table == other._table
                and self.line == other.line and self.curve == other.curve and self.modulus == other.modulus)

    def __repr__(self):
        return f"Keep({len(self._table)} entries)"


class Pair(Box):
    """An opened box that looks at the values of its two ends, in any order, at this beat alone."""

    KIND = "pair"

    def __init__(self, table=None, *, line=0, curve=0, modulus=1000):
        super().__init__(table, line=line, curve=curve, modulus=modulus)

    def table(self):
        """The table."""
        return copy_of(self._table)

    @property
    def dead(self):
        """Whether it answers 0 to everything."""
        return is_dead(self._table, self.line, self.curve, self.modulus)

    def fits(self, kind):
        """Whether it may stand in parts of this kind."""
        return kind == "pair"

    def reply(self, row):
        """The answer to the row of all pairs of values of both ends up to this beat."""
        one, other = row[-1]
        key = (min(one, other), max(one, other))
        if key == (0, 0):
            return 0
        if key in self._table:
            return self._table[key]
        return (self.line * (one + other) + self.curve * one * other) % self.modulus

    def __call__(self, row):
        return self.reply(row)

    def __eq__(self, other):
        return (isinstance(other, Box) and self.KIND == other.KIND and self._table == other._table
                and self.line == other.line and self.curve == other.curve and self.modulus == other.modulus)

    def __repr__(self):
        return f"Pair({len(self._table)} entries)"
