"""Whether two nets or sheets are alike, and the first beat at which they can differ if they are not."""

from itertools import combinations

from unopened.classes import classes_in, silent_in
from unopened.errors import TooMany, UnlikeOuts
from unopened.facts import groups
from unopened.opening import boxes_for, numbers_for, signals_for
from unopened.papers import Alike, Parted
from unopened.sheets import joined
from unopened.symbols import SymbolRun, difference
from unopened.tables import boxes_with_groups, rewritten, widest_table

MOST_FACTS = 6


def joint(one, other, facts):
    """The joint sheet of two things, and the groups of their boxes."""
    if len(one.outs()) != len(other.outs()):
        raise UnlikeOuts()
    found = groups([one, other], facts)
    return joined(one, other), found


def paired(outs):
    """The pairs of the outputs of one and other, by the outputs of their joint sheet or of its free run."""
    half = len(outs) // 2
    return list(zip(outs[:half], outs[half:]))


def makes_alike(table, sheet):
    """Whether the outputs of both things of a joint sheet are equal when the table rewrites them."""
    return all([rewritten(one, table) == rewritten(other, table) for one, other in paired(sheet.outs())])


def first_differences(run):
    """Runs a joint sheet, which is not alike, to the first beat with differences, and returns those of all outputs."""
    while True:
        differences = [difference(one, other) for one, other in paired(run.step())]
        if any(differences):
            return differences


def compare(one, other, *, facts=()):
    """An Alike with the widest table, or a Parted at the first beat at which both can differ."""
    sheet, found = joint(one, other, facts)
    table = widest_table(boxes_with_groups(sheet, found))
    if makes_alike(table, sheet):
        return Alike(one, other, classes_in(table), silent_in(table, len(sheet)), facts=facts)
    run = SymbolRun(sheet, found)
    differences = first_differences(run)
    out = [bool(value) for value in differences].index(True)
    numbers = numbers_for(run, found, differences[out])
    by_name = boxes_for(run, found, numbers)
    opened = {name: by_name[name] for name in sheet.kinds()}
    return Parted(one, other, run.length - 1, out, signals_for(run, numbers), opened, facts=facts)


def are_alike(one, other, *, facts=()):
    """Whether both have the same outputs for all signals and boxes."""
    sheet, found = joint(one, other, facts)
    return makes_alike(widest_table(boxes_with_groups(sheet, found)), sheet)


def first_beat(one, other, *, facts=()):
    """The first beat at which both can differ, or None."""
    sheet, found = joint(one, other, facts)
    if makes_alike(widest_table(boxes_with_groups(sheet, found)), sheet):
        return None
    run = SymbolRun(sheet, found)
    first_differences(run)
    return run.length - 1


def least_facts(one, other, facts):
    """The ascending tuples of the indexes of those sets of facts that make both alike, without a smaller part."""
    joint(one, other, facts)
    if len(facts) > MOST_FACTS:
        raise TooMany("facts", MOST_FACTS)
    found = []
    for size in range(len(facts) + 1):
        for chosen in combinations(range(len(facts)), size):
            # More facts never take back that both are alike, so a set is looked at if none of its parts was found.
            if not any([all([at in chosen for at in least]) for least in found]):
                if are_alike(one, other, facts=[facts[at] for at in chosen]):
                    found.append(chosen)
    return found
