"""The leanest sheet: as few boxes of each name as will do, each one as early as can be."""

from unopened.classes import sheet_and_table
from unopened.facts import groups
from unopened.forms import Form, early
from unopened.rings import reached_from
from unopened.series import delayed
from unopened.sheets import Sheet
from unopened.tables import rewritten


def heads_of(sheet, table):
    """A dict from the heads of the classes, ascending, to the lists of their rewritten ends."""
    ends = {}
    for index, (_, _, forms) in enumerate(sheet.boxes()):
        if index in table and table[index][0] == index:
            ends[index] = [rewritten(form, table) for form in forms]
    return ends


def needed_heads(outs, heads):
    """The ascending list of the heads of needed classes, by the rewritten outputs and the rewritten ends of heads."""
    leads = {head: [at for end in heads[head] for at in end.boxes()] for head in heads}
    leads["outs"] = [at for out in outs for at in out.boxes()]
    return sorted(list(reached_from("outs", leads)))


def least_way(forms, sources, ways):
    """The least sum of orders on a way from the forms to one of the sources, by those from the heads, or None."""
    sums = [form.source(name).order for form in forms for name in form.sources() if name in sources]
    sums.extend([form.box(head).order + ways[head] for form in forms for head in form.boxes() if head in ways])
    return min(sums, default=None)


def least_ways(heads, sources):
    """A dict from the heads to the least sums of orders on ways to one of the sources; the others have no way."""
    ways = {}
    while True:
        sums = {head: least_way(heads[head], sources, ways) for head in heads}
        found = {head: sums[head] for head in sums if sums[head] is not None}
        if found == ways:
            return ways
        ways = found


class Leaning:
    """What the lean sheet of a thing is made from.

    Attributes: boxes_before, the boxes of its sheet; outs_before, the rewritten outputs; ends_by_head, a dict from the
    heads of the needed classes, ascending, to their rewritten ends; moves_by_head, by how much each one is moved ahead.
    """

    def __init__(self, thing, facts):
        sheet, table = sheet_and_table(thing, facts)
        heads = heads_of(sheet, table)
        self.boxes_before = sheet.boxes()
        self.outs_before = [rewritten(out, table) for out in sheet.outs()]
        self.ends_by_head = {head: heads[head] for head in needed_heads(self.outs_before, heads)}
        # The greatest numbers by which all can be moved are the least sums of orders on ways to any source.
        self.moves_by_head = least_ways(self.ends_by_head, sheet.sources())

    def moved(self, form):
        """A rewritten form over the boxes of the lean sheet."""
        numbers = {head: number for number, head in enumerate(self.ends_by_head)}
        return Form({name: form.source(name) for name in form.sources()},
                    {numbers[head]: delayed(form.box(head), self.moves_by_head[head]) for head in form.boxes()})

    def box_for(self, head):
        """The box of a class in the lean sheet."""
        kind, name, _ = self.boxes_before[head]
        ends = [early(self.moved(end), self.moves_by_head[head]) for end in self.ends_by_head[head]]
        return (kind, name, tuple(ends))


def lean(thing, *, facts=()):
    """The lean sheet of a thing."""
    leaning = Leaning(thing, facts)
    boxes = [leaning.box_for(head) for head in leaning.ends_by_head]
    return Sheet(boxes, [leaning.moved(out) for out in leaning.outs_before])


def fewest(thing, *, facts=()):
    """A dict from the least names of groups, ascending, to the numbers of needed classes of them."""
    leaning = Leaning(thing, facts)
    needed = [leaning.boxes_before[head][1] for head in leaning.ends_by_head]
    counts = {names[0]: len([name for name in needed if name in names]) for names, _, _ in groups([thing], facts)}
    return {name: counts[name] for name in counts if counts[name] > 0}


def moves(thing, *, facts=()):
    """The list of the pairs (head, number) by which the needed classes can be moved ahead, ascending."""
    leaning = Leaning(thing, facts)
    return [(head, leaning.moves_by_head[head]) for head in leaning.ends_by_head]
