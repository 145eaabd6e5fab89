"""Whether a table of classes and silent boxes closes.

Lags may be numbers of any size. So a rewritten form is not made as a form here: it is a dict from its sources and its
heads to lists of pairs (lag, series), which stand for the sums of these series, each one late by its lag.
"""

from unopened.names import is_integer
from unopened.series import hastened


def is_member(value):
    """Whether any value is of the form of a member, with a lag and a sign that a table may have."""
    if not isinstance(value, tuple) or len(value) != 4:
        return False
    index, lag, sign, swapped = value
    if not is_integer(index) or not is_integer(lag) or not is_integer(sign) or not isinstance(swapped, bool):
        return False
    return lag >= 0 and sign in (1, -1)


def is_class(value):
    """Whether any value is a list of members that begins with a head."""
    if not isinstance(value, list) or not value or not all([is_member(member) for member in value]):
        return False
    return value[0][1:] == (0, 1, False)


def table_of(classes, silent, many):
    """The table of any values, a dict as in tables, or None if they are not one in which each box stands once."""
    if not isinstance(classes, list) or not all([is_class(members) for members in classes]):
        return None
    if not isinstance(silent, list) or not all([is_integer(index) for index in silent]):
        return None
    indexes = [*silent, *[member[0] for members in classes for member in members]]
    if sorted(indexes) != list(range(many)):
        return None
    return {index: (members[0][0], lag, sign, swapped) for members in classes for index, lag, sign, swapped in members}


def fits_groups(boxes, table):
    """Whether members are of one group that allows their signs and exchanges, and all dead boxes are silent."""
    for index in table:
        head, _, sign, swapped = table[index]
        group, kind, dead, _ = boxes[index]
        if dead or group != boxes[head][0] or (sign == -1 and kind != "odd") or (swapped and kind != "pair"):
            return False
    return True


def rewritten_sums(form, table):
    """The form, rewritten by the table."""
    sums = {name: [(0, form.source(name))] for name in form.sources()}
    for index in form.boxes():
        if index in table:
            head, lag, sign, _ = table[index]
            sums.setdefault(head, []).append((lag, form.box(index) * sign))
    return sums


def is_zero_sum(terms):
    """Whether the sum of the series of the pairs (lag, series), each one late by its lag, is zero."""
    waiting = [(lag + series.order, hastened(series, series.order)) for lag, series in terms if series]
    while waiting:
        # The series begin with other numbers than 0 now, so the earliest ones must cancel where they begin.
        least = min([lag for lag, _ in waiting])
        first, *others = [series for lag, series in waiting if lag == least]
        if not others:
            return False
        total = first
        for series in others:
            total = total + series
        waiting = [(lag, series) for lag, series in waiting if lag != least]
        if total:
            waiting.append((least + total.order, hastened(total, total.order)))
    return True


def sounds_late(one, other, lag, sign):
    """Whether a rewritten form is another one, late by the lag and times the sign."""
    for key in {**one, **other}:
        opposite = [(ahead + lag, series * (-sign)) for ahead, series in other.get(key, [])]
        if not is_zero_sum([*one.get(key, []), *opposite]):
            return False
    return True


def ends_close(index, boxes, table):
    """Whether the ends of a box are those of its head, or zero if it is silent and not dead."""
    _, _, dead, ends = boxes[index]
    sums = [rewritten_sums(end, table) for end in ends]
    if index not in table:
        return dead or all([sounds_late(end, {}, 0, 1) for end in sums])
    head, lag, sign, swapped = table[index]
    head_sums = [rewritten_sums(end, table) for end in boxes[head][3]]
    if swapped:
        head_sums.reverse()
    return all([sounds_late(one, other, lag, sign) for one, other in zip(sums, head_sums)])


def closes(boxes, outs, table):
    """Whether a table closes, by the boxes as in tables and the pairs of outputs that must be equal."""
    if not fits_groups(boxes, table) or not all([ends_close(index, boxes, table) for index in range(len(boxes))]):
        return False
    pairs = [(rewritten_sums(one, table), rewritten_sums(other, table)) for one, other in outs]
    return all([sounds_late(one, other, 0, 1) for one, other in pairs])
