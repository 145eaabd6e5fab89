"""Sheets: boxes whose ends are forms, and outputs that are forms."""

from unopened.errors import InvalidSheet, Ring, TooMany, UnknownName, UnlikeKinds
from unopened.flow import SheetRun, sheet_leads
from unopened.forms import Form
from unopened.names import is_name
from unopened.parts import ENDS, is_kind
from unopened.rings import first_on_ring
from unopened.running import check_run
from unopened.solving import forms_of

MOST_BOXES = 16


def is_form_over(value, most):
    """Whether any value is a form over the first boxes, so many of them."""
    return isinstance(value, Form) and all([index < most for index in value.boxes()])


def is_box_over(value, most):
    """Whether any value is a box of a sheet, with ends over the first boxes, so many of them."""
    if not isinstance(value, tuple) or len(value) != 3:
        return False
    kind, name, ends = value
    if not is_kind(kind) or not is_name(name) or not isinstance(ends, tuple) or len(ends) != ENDS[kind]:
        return False
    return all([is_form_over(end, most) for end in ends])


def check_sheet_kinds(boxes):
    """Raises the error of a box whose name stands earlier with another kind."""
    kinds = {}
    for kind, name, _ in boxes:
        if kinds.setdefault(name, kind) != kind:
            raise UnlikeKinds(name)


class Sheet:
    """Boxes and outputs."""

    def __init__(self, boxes, outs):
        self._boxes = list(boxes)
        self._outs = list(outs)
        many = len(self._boxes)
        for at, box in enumerate(self._boxes):
            if not is_box_over(box, many):
                raise InvalidSheet(at)
        for at, out in enumerate(self._outs):
            if not is_form_over(out, many):
                raise InvalidSheet(many + at)
        if many > MOST_BOXES:
            raise TooMany("boxes", MOST_BOXES)
        check_sheet_kinds(self._boxes)
        place = first_on_ring(sheet_leads(self._boxes))
        if place is not None:
            raise Ring(place)

    def boxes(self):
        """The tuples (kind, name, ends) of the boxes."""
        return list(self._boxes)

    def outs(self):
        """The forms of the outputs."""
        return list(self._outs)

    def sources(self):
        """The ascending list of the sources in the forms."""
        forms = [*[end for _, _, ends in self._boxes for end in ends], *self._outs]
        found = {name: True for form in forms for name in form.sources()}
        return sorted(list(found))

    def kinds(self):
        """A dict from the names of the boxes to their kinds."""
        return {name: kind for kind, name, _ in self._boxes}

    def run(self, signals, opened, beats):
        """The list of the lists of the outputs at each beat."""
        check_run(self, signals, opened, beats)
        live = SheetRun(self, signals, opened)
        made = []
        for _ in range(beats):
            made.append(live.step())
        return made

    def __eq__(self, other):
        return isinstance(other, Sheet) and self._boxes == other._boxes and self._outs == other._outs

    def __len__(self):
        return len(self._boxes)

    def __bool__(self):
        return True

    def __repr__(self):
        return f"Sheet({len(self._boxes)} boxes, {len(self._outs)} outs)"


def sheet_of(net):
    """The sheet of a net."""
    forms = forms_of(net)
    parts = [part for part in net.plain() if part[0] in ENDS]
    boxes = [(part[0], part[2], tuple([forms[end] for end in part[3:]])) for part in parts]
    return Sheet(boxes, [forms[wire] for wire in net.outs()])


def form_of(net, wire):
    """The form of a wire of the plain net."""
    if wire not in net:
        raise UnknownName(wire)
    return forms_of(net)[wire]


def as_sheet(thing):
    """The sheet of a thing."""
    return thing if isinstance(thing, Sheet) else sheet_of(thing)


def unlike_name(things):
    """The first box, ascending, that has unlike kinds in the things, or None."""
    kinds = {}
    unlike = []
    for thing in things:
        found = thing.kinds()
        for name in found:
            if kinds.setdefault(name, found[name]) != found[name]:
                unlike.append(name)
    return min(unlike, default=None)


def renumbered(form, ahead):
    """The form with greater indexes of the boxes."""
    return Form({name: form.source(name) for name in form.sources()},
                {index + ahead: form.box(index) for index in form.boxes()})


def joined(one, other):
    """The joint sheet of two things."""
    unlike = unlike_name([one, other])
    if unlike is not None:
        raise UnlikeKinds(unlike)
    first = as_sheet(one)
    second = as_sheet(other)
    ahead = len(first)
    boxes = [(kind, name, tuple([renumbered(end, ahead) for end in ends])) for kind, name, ends in second.boxes()]
    return Sheet([*first.boxes(), *boxes], [*first.outs(), *[renumbered(out, ahead) for out in second.outs()]])
