"""Which boxes of a net or a sheet sound alike, and which ones are silent, for all signals and boxes."""

from unopened.facts import groups
from unopened.sheets import as_sheet
from unopened.tables import boxes_with_groups, widest_table


def table_of_thing(thing, facts):
    """The widest table of the boxes of a thing."""
    found = groups([thing], facts)
    return widest_table(boxes_with_groups(as_sheet(thing), found))


def by_lag(member):
    """By what the members of a class are sorted."""
    index, lag, _, _ = member
    return (lag, index)


def classes(thing, *, facts=()):
    """The list of the classes, each one the list of its members (index, lag, sign, swapped)."""
    table = table_of_thing(thing, facts)
    members = {}
    for index in table:
        head, lag, sign, swapped = table[index]
        members.setdefault(head, []).append((index, lag, sign, swapped))
    return [sorted(members[head], key=by_lag) for head in sorted(list(members))]


def silent(thing, *, facts=()):
    """The ascending list of the indexes of the silent boxes."""
    table = table_of_thing(thing, facts)
    return [index for index in range(len(as_sheet(thing))) if index not in table]
