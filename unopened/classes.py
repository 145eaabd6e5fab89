"""Which boxes of a net or a sheet sound alike, and which ones are silent, for all signals and boxes."""

from unopened.facts import groups
from unopened.sheets import as_sheet
from unopened.tables import boxes_with_groups, widest_table


def sheet_and_table(thing, facts):
    """The sheet of a thing and the widest table of its boxes."""
    found = groups([thing], facts)
    sheet = as_sheet(thing)
    return sheet, widest_table(boxes_with_groups(sheet, found))


def by_lag(member):
    """By what the members of a class are sorted."""
    index, lag, _, _ = member
    return (lag, index)


def classes_in(table):
    """The classes of a table, each one the list of its members (index, lag, sign, swapped)."""
    members = {}
    for index in table:
        head, lag, sign, swapped = table[index]
        members.setdefault(head, []).append((index, lag, sign, swapped))
    return [sorted(members[head], key=by_lag) for head in sorted(list(members))]


def silent_in(table, many):
    """The ascending list of the indexes of the silent boxes of a table for so many boxes."""
    return [index for index in range(many) if index not in table]


def classes(thing, *, facts=()):
    """The list of the classes, each one the list of its members (index, lag, sign, swapped)."""
    _, table = sheet_and_table(thing, facts)
    return classes_in(table)


def silent(thing, *, facts=()):
    """The ascending list of the indexes of the silent boxes."""
    sheet, table = sheet_and_table(thing, facts)
    return silent_in(table, len(sheet))
