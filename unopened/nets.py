"""Nets: parts that set wires, and outputs."""

from unopened.errors import (
    DuplicateName, InvalidOuts, InvalidPart, InvalidUse, Ring, TooMany, UnknownName, UnknownPiece, UnlikeKinds,
)
from unopened.names import is_name
from unopened.parts import ENDS, is_part, leads_of, renamed, wires_in
from unopened.rings import first_on_ring
from unopened.texts import MOST_OUTS, read_net, text_of

MOST_SOURCES = 4
MOST_WIRES = 24


def check_outs(outs):
    """Raises the error of outputs that are no names, or too few or too many."""
    for at, wire in enumerate(outs):
        if not is_name(wire):
            raise InvalidOuts(at)
    if not 1 <= len(outs) <= MOST_OUTS:
        raise InvalidOuts(len(outs))


def check_wires(parts, outs):
    """Raises the error of a wire that is set twice, or not at all."""
    known = {}
    for part in parts:
        if part[1] in known:
            raise DuplicateName(part[1])
        known[part[1]] = True
    for part in parts:
        check_known(wires_in(part), known)
    check_known(outs, known)


def check_known(wires, known):
    """Raises the error of the first wire that is not known."""
    for wire in wires:
        if wire not in known:
            raise UnknownName(wire)


def check_uses(parts, pieces):
    """Raises the error of a use whose piece is not given, or has another number of sources."""
    for at, part in enumerate(parts):
        if part[0] == "use":
            piece = part[2]
            if piece not in pieces:
                raise UnknownPiece(piece)
            if len(pieces[piece].sources()) != len(part[3]):
                raise InvalidUse(at)


def plain_of_use(wire, piece, ends):
    """The plain parts that take the place of a use."""
    sources = piece.sources()
    names = {inner: f"{wire}/{inner}" for inner in piece.wires()}
    for source, end in zip(sources, ends):
        names[source] = end
    inner_parts = [renamed(part, names) for part in piece.plain() if part[0] != "source"]
    return [*inner_parts, ("mix", wire, ((1, 0, names[piece.outs()[0]]),))]


def plain_of(parts, pieces):
    """The plain parts of all parts."""
    made = []
    for part in parts:
        if part[0] == "use":
            made.extend(plain_of_use(part[1], pieces[part[2]], part[3]))
        else:
            made.append(part)
    return made


def check_kinds(boxes):
    """Raises the error of a box that has another kind than in an earlier part."""
    kinds = {}
    for _, kind, box in boxes:
        if kinds.setdefault(box, kind) != kind:
            raise UnlikeKinds(box)


def boxes_in(plain):
    """The tuples (wire, kind, box) of the boxes of plain parts."""
    return [(part[1], part[0], part[2]) for part in plain if part[0] in ENDS]


class Net:
    """Parts and outputs, and the plain parts that they stand for."""

    MOST = 16
    BOXES = 8

    def __init__(self, parts, outs, *, pieces=None):
        self._parts = list(parts)
        self._outs = list(outs)
        self._pieces = {} if pieces is None else dict(pieces)
        for at, part in enumerate(self._parts):
            if not is_part(part):
                raise InvalidPart(at)
        if len(self._parts) > self.MOST:
            raise TooMany("parts", self.MOST)
        check_outs(self._outs)
        check_wires(self._parts, self._outs)
        if len(self.sources()) > MOST_SOURCES:
            raise TooMany("sources", MOST_SOURCES)
        check_uses(self._parts, self._pieces)
        self._plain = plain_of(self._parts, self._pieces)
        if len(self._plain) > MOST_WIRES:
            raise TooMany("wires", MOST_WIRES)
        if len(self.boxes()) > self.BOXES:
            raise TooMany("boxes", self.BOXES)
        check_kinds(self.boxes())
        place = first_on_ring({part[1]: leads_of(part) for part in self._plain})
        if place is not None:
            raise Ring(place)

    def parts(self):
        """The parts as they were passed."""
        return list(self._parts)

    def outs(self):
        """The outputs as they were passed."""
        return list(self._outs)

    def plain(self):
        """The plain parts, in which no piece is used."""
        return list(self._plain)

    def wires(self):
        """The wires of the plain parts, in order."""
        return [part[1] for part in self._plain]

    def sources(self):
        """The sources, in the order of the parts."""
        return [part[1] for part in self._parts if part[0] == "source"]

    def boxes(self):
        """The tuples (wire, kind, box) of the boxes of the plain parts, in order."""
        return boxes_in(self._plain)

    def kinds(self):
        """A dict from the names of the boxes to their kinds."""
        return {box: kind for _, kind, box in self.boxes()}

    def text(self):
        """The text of the parts and the outputs."""
        return text_of(self._parts, self._outs)

    def put(self, part):
        """The net with this part in the place of the one that sets the same wire, or behind the last one."""
        if not is_part(part):
            raise InvalidPart(0)
        wires = [each[1] for each in self._parts]
        if part[1] in wires:
            at = wires.index(part[1])
            return Net([*self._parts[:at], part, *self._parts[at + 1:]], self._outs, pieces=self._pieces)
        return Net([*self._parts, part], self._outs, pieces=self._pieces)

    def drop(self, wire):
        """The net without the part that sets this wire."""
        others = [part for part in self._parts if part[1] != wire]
        if len(others) == len(self._parts):
            raise UnknownName(wire)
        return Net(others, self._outs, pieces=self._pieces)

    def tapped(self, *wires):
        """The net with the same parts and these outputs."""
        return Net(self._parts, wires, pieces=self._pieces)

    @staticmethod
    def read(text, *, pieces=None):
        """The net of a text."""
        parts, outs = read_net(text)
        return Net(parts, outs, pieces=pieces)

    def __eq__(self, other):
        return isinstance(other, Net) and self._plain == other._plain and self._outs == other._outs

    def __contains__(self, wire):
        return wire in self.wires()

    def __len__(self):
        return len(self._parts)

    def __bool__(self):
        return True

    def __repr__(self):
        sources = " ".join(self.sources()) if self.sources() else "-"
        outs = " ".join(self._outs)
        return f"Net({sources} > {outs})"
