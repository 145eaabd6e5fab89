"""Parts of nets: their form, and the wires that stand in them."""

from unopened.names import is_name, is_number
from unopened.texts import MOST_DELAY, MOST_ENDS, MOST_FACTOR, MOST_TERMS

# The kinds of boxes, each one with the number of its ends.
ENDS = {"plain": 1, "odd": 1, "keep": 1, "pair": 2}


def is_kind(value):
    """Whether any value is a kind of boxes."""
    return isinstance(value, str) and value in ENDS


def is_term(value):
    """Whether any value is a term of a mix."""
    if not isinstance(value, tuple) or len(value) != 3:
        return False
    factor, delay, wire = value
    return is_number(factor, -MOST_FACTOR, MOST_FACTOR) and is_number(delay, 0, MOST_DELAY) and is_name(wire)


def are_terms(value):
    """Whether any value is the tuple of the terms of a mix."""
    return isinstance(value, tuple) and len(value) <= MOST_TERMS and all([is_term(item) for item in value])


def are_ends(value):
    """Whether any value is the tuple of the ends of a use."""
    return isinstance(value, tuple) and len(value) <= MOST_ENDS and all([is_name(item) for item in value])


def is_part(value):
    """Whether any value is of the form of a part."""
    if not isinstance(value, tuple) or len(value) < 2 or not is_name(value[1]):
        return False
    kind, _, *items = value
    if kind == "source":
        return not items
    if kind == "mix":
        return len(items) == 1 and are_terms(items[0])
    if kind == "use":
        return len(items) == 2 and is_name(items[0]) and are_ends(items[1])
    return is_kind(kind) and len(items) == 1 + ENDS[kind] and all([is_name(item) for item in items])


def wires_in(part):
    """The wires from which a part makes its own one, in the order of its tuple."""
    kind, _, *items = part
    if kind == "mix":
        return [wire for _, _, wire in items[0]]
    if kind == "use":
        return list(items[1])
    # A source has no items, and a box has its name ahead of its ends.
    return items[1:]


def leads_of(part):
    """The wires to which the wire of a plain part leads without delay."""
    if part[0] == "mix":
        return [wire for _, delay, wire in part[2] if delay == 0]
    return wires_in(part)


def renamed(part, names):
    """A plain part with other names of wires, given by a dict."""
    kind, wire, *items = part
    if kind == "mix":
        return (kind, names[wire], tuple([(factor, delay, names[end]) for factor, delay, end in items[0]]))
    return (kind, names[wire], items[0], *[names[end] for end in items[1:]])
