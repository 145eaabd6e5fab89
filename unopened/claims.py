"""Claims about the wires of nets, for all signals and boxes at once."""

from unopened.classes import classes, sheet_and_table
from unopened.errors import UnknownName
from unopened.forms import early
from unopened.lean import heads_of, least_way, least_ways, moves
from unopened.sheets import form_of
from unopened.tables import rewritten


def check_wires(net, wires):
    """Raises the error of the first value that is no wire of the plain net."""
    for wire in wires:
        if wire not in net:
            raise UnknownName(wire)


def is_silent(net, wire, *, facts=()):
    """Whether the wire always has the value 0."""
    check_wires(net, [wire])
    _, table = sheet_and_table(net, facts)
    return not rewritten(form_of(net, wire), table)


def relation(net, one, other, *, facts=()):
    """The pair (lag, sign) with which one sounds like other, or None."""
    check_wires(net, [one, other])
    _, table = sheet_and_table(net, facts)
    first = rewritten(form_of(net, one), table)
    second = rewritten(form_of(net, other), table)
    if not first and not second:
        return (0, 1)
    if not first or not second:
        return None
    lag = first.order - second.order
    first_ahead = early(first, first.order)
    second_ahead = early(second, second.order)
    if first_ahead == second_ahead:
        return (lag, 1)
    return (lag, -1) if first_ahead == -second_ahead else None


def lateness(net, source, wire, *, facts=()):
    """The least lag with which the wire hears the source, or None."""
    if source not in net.sources():
        raise UnknownName(source)
    check_wires(net, [wire])
    sheet, table = sheet_and_table(net, facts)
    ways = least_ways(heads_of(sheet, table), [source])
    return least_way([rewritten(form_of(net, wire), table)], [source], ways)


def copies(net, *, facts=()):
    """The classes of the boxes, each box as a tuple (wire, lag, sign)."""
    wires = [wire for wire, _, _ in net.boxes()]
    return [[(wires[index], lag, sign) for index, lag, sign, _ in members] for members in classes(net, facts=facts)]


def needless(net, *, facts=()):
    """The list of the wires of the boxes that are not the head of a needed class."""
    heads = [head for head, _ in moves(net, facts=facts)]
    return [wire for index, (wire, _, _) in enumerate(net.boxes()) if index not in heads]
