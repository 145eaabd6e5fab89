"""Nets in the middle of a run, from which it goes on beat by beat, also with other parts."""

from unopened.errors import UnknownName, UnlikeKinds
from unopened.parts import leads_of
from unopened.rings import in_order


def check_opened(kinds, opened):
    """Raises the error of boxes of these kinds whose opened boxes are not there, or do not fit."""
    for name in sorted(kinds):
        if name not in opened:
            raise UnknownName(name)
    for name in sorted(kinds):
        if not opened[name].fits(kinds[name]):
            raise UnlikeKinds(name)


class Past:
    """A row of values that does not change: what is longer is another one."""

    def __init__(self, row):
        self._row = row
        self.length = len(row)

    def longer(self, value):
        """The row with one more value."""
        # A longer row shares the list of the shorter one, unless something else stands behind that already. This
        # spares a copy at each beat.
        row = self._row if len(self._row) == self.length else self._row[:self.length]
        row.append(value)
        return Past(row)

    def since(self, start):
        """The list of the values from a beat on."""
        return self._row[start:self.length]

    def ago(self, beats):
        """The value so many beats ahead of the next one, 0 ahead of the row."""
        return self._row[self.length - beats] if beats <= self.length else 0


class Plan:
    """A net and opened boxes for it. Its attribute turns has the plain parts in an order in which they can be run."""

    def __init__(self, net, opened):
        parts = {part[1]: part for part in net.plain()}
        leads = {wire: leads_of(parts[wire]) for wire in parts}
        self.present = net
        self.by_name = opened
        # Within a beat each wire is set behind those of which it needs the values of this beat.
        self.turns = [parts[wire] for wire in in_order(leads)]


class Scene:
    """A net in the middle of a run. It does not change: what follows is another one.

    Attributes: plan; results, the Past of the lists of the outputs.
    """

    def __init__(self, plan, pasts, ears, results):
        self.plan = plan
        self.results = results
        self._pasts = pasts
        # For each box what it has heard at its ends since its part was put.
        self._ears = ears

    def past_of(self, wire):
        """The list of the values of a wire so far."""
        return self._pasts[wire].since(0)

    def run_on(self, values):
        """What follows when the net runs one beat; a source that the dict values does not name has the value 0."""
        now = {}
        ears = {}
        for kind, wire, *items in self.plan.turns:
            if kind == "source":
                now[wire] = values.get(wire, 0)
            elif kind == "mix":
                now[wire] = sum([factor * self._value_at(end, delay, now) for factor, delay, end in items[0]])
            else:
                ends = [now[end] for end in items[1:]]
                ears[wire] = self._ears[wire].longer(tuple(ends) if kind == "pair" else ends[0])
                now[wire] = self.plan.by_name[items[0]].reply(ears[wire].since(0))
        pasts = {wire: self._pasts[wire].longer(now[wire]) for wire in now}
        results = self.results.longer([now[wire] for wire in self.plan.present.outs()])
        return Scene(self.plan, pasts, ears, results)

    def with_part(self, part):
        """The same with this part in the place of the one that sets the same wire, or behind the last one."""
        plan = self._checked_plan(self.plan.present.put(part))
        pasts = {part[1]: Past([0] * self.results.length), **self._pasts}
        return Scene(plan, pasts, {**self._ears, part[1]: Past([])}, self.results)

    def without(self, wire):
        """The same without the part that sets this wire."""
        plan = self._checked_plan(self.plan.present.drop(wire))
        pasts = {each: self._pasts[each] for each in plan.present.wires()}
        return Scene(plan, pasts, self._ears, self.results)

    def _checked_plan(self, net):
        """The plan for another net with the same opened boxes."""
        check_opened(net.kinds(), self.plan.by_name)
        return Plan(net, self.plan.by_name)

    def _value_at(self, wire, delay, now):
        """The value of a wire some beats ahead of the next one."""
        return now[wire] if delay == 0 else self._pasts[wire].ago(delay)


def first_scene(net, opened):
    """A net ahead of its first beat, with opened boxes that are there and fit."""
    wires = net.wires()
    return Scene(Plan(net, opened), {wire: Past([]) for wire in wires}, {wire: Past([]) for wire in wires}, Past([]))
