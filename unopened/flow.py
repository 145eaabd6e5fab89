"""Running sheets beat by beat, with signals and opened boxes."""

from unopened.rings import in_order


def sheet_leads(boxes):
    """A dict from the indexes of boxes to those to which their ends lead without delay."""
    leads = {}
    for index, (_, _, ends) in enumerate(boxes):
        leads[index] = [at for end in ends for at in end.boxes() if end.box(at).order == 0]
    return leads


class Flow:
    """A series times a row of values that grows beat by beat."""

    def __init__(self, series, past):
        # The row is shared on purpose: it is the owner who adds a value to it at each beat.
        self._past = past
        self._top = series.top()
        self._bottom = series.bottom()
        self._order = series.order
        self._made = []

    def step(self):
        """The value at the next beat. The row must reach as far as the series needs it."""
        at = len(self._made)
        value = 0
        for k in range(self._order, min(len(self._top), at + 1)):
            value = value + self._top[k] * self._past[at - k]
        for k in range(1, min(len(self._bottom), at + 1)):
            value = value - self._bottom[k] * self._made[at - k]
        self._made.append(value)
        return value


class SheetRun:
    """Boxes and outputs of a sheet that run beat by beat. A source that signals lacks has the value 0."""

    def __init__(self, sheet, signals, opened):
        boxes = sheet.boxes()
        self._signals = {name: list(signals.get(name, [])) for name in sheet.sources()}
        self._heard = {name: [] for name in sheet.sources()}
        self._answers = [[] for _ in boxes]
        self._opened = [opened[name] for _, name, _ in boxes]
        self._rows = [[] for _ in boxes]
        self._order = in_order(sheet_leads(boxes))
        self._ends = [[self._flows_of(end) for end in ends] for _, _, ends in boxes]
        self._outs = [self._flows_of(out) for out in sheet.outs()]

    def step(self):
        """Runs one beat, and returns the list of the outputs."""
        for name in self._signals:
            row = self._signals[name]
            at = len(self._heard[name])
            self._heard[name].append(row[at] if at < len(row) else 0)
        for index in self._order:
            values = [sum_of_flows(flows) for flows in self._ends[index]]
            self._rows[index].append(values[0] if len(values) == 1 else tuple(values))
            self._answers[index].append(self._opened[index].reply(self._rows[index]))
        return [sum_of_flows(flows) for flows in self._outs]

    def _flows_of(self, form):
        """The flows of the series of a form."""
        from_sources = [Flow(form.source(name), self._heard[name]) for name in form.sources()]
        return [*from_sources, *[Flow(form.box(index), self._answers[index]) for index in form.boxes()]]


def sum_of_flows(flows):
    """The sum of flows at the next beat."""
    values = [flow.step() for flow in flows]
    return sum(values)
