"""Tables: which boxes of a sheet are silent, and which ones sound like others.

Here a table is a dict from the indexes of the boxes that are not silent to tuples (head, lag, sign, swapped).
"""

from unopened.forms import Form, early, late


def boxes_with_groups(sheet, found):
    """The list of the tuples (group, kind, dead, ends) of the boxes of a sheet, by the groups that were found."""
    group_at = {name: at for at, (names, _, _) in enumerate(found) for name in names}
    made = []
    for _, name, ends in sheet.boxes():
        at = group_at[name]
        made.append((at, found[at][1], found[at][2], ends))
    return made


def rewritten(form, table):
    """The form by the table: silent boxes are left out, members go to their heads."""
    made = Form({name: form.source(name) for name in form.sources()})
    for index in form.boxes():
        if index in table:
            head, lag, sign, _ = table[index]
            made = made + late(Form(boxes={head: form.box(index) * sign}), lag)
    return made


def likeness(ends, head_ends, kind):
    """The pair (sign, swapped) by which these ends are those of the head, or None."""
    if ends == head_ends:
        return (1, False)
    if kind == "odd" and ends == [-end for end in head_ends]:
        return (-1, False)
    if kind == "pair" and ends == [head_ends[1], head_ends[0]]:
        return (1, True)
    return None


def sorted_into(boxes, lates):
    """The table by tuples (order, index, ends) for the boxes that are not silent; the ends are moved ahead."""
    heads = []
    table = {}
    # Equal orders stay sorted by the index.
    for order, index, ends in sorted(lates, key=lambda item: item[0]):
        group, kind, _, _ = boxes[index]
        for head_order, head, head_ends in heads:
            like = likeness(ends, head_ends, kind) if boxes[head][0] == group else None
            if like is not None:
                table[index] = (head, order - head_order, like[0], like[1])
                break
        else:
            table[index] = (index, 0, 1, False)
            heads.append((order, index, ends))
    return table


def next_table(boxes, table):
    """The table that the ends, rewritten by a table, lead to."""
    lates = []
    for index, (_, _, dead, ends) in enumerate(boxes):
        now = [rewritten(end, table) for end in ends]
        order = min([end.order for end in now if end], default=None)
        if order is not None and not dead:
            lates.append((order, index, [early(end, order) for end in now]))
    return sorted_into(boxes, lates)


def widest_table(boxes):
    """The widest table of the boxes of a sheet."""
    table = {}
    found = next_table(boxes, table)
    while found != table:
        table = found
        found = next_table(boxes, table)
    return table
