"""Pages: shelves as texts."""

from unopened.errors import InvalidPage, InvalidText
from unopened.facts import is_fact
from unopened.names import is_name
from unopened.shelves import Shelf, filled_shelf
from unopened.stocks import Stock, nets_of
from unopened.texts import read_net


def write_page(shelf):
    """The page of a shelf."""
    lines = [" ".join(["fact", *fact]) for fact in shelf.facts()]
    lines.extend([f"{piece} = {shelf.text(piece)}" for piece in shelf.pieces()])
    return "".join([f"{line}\n" for line in lines])


def fact_of(line):
    """The fact that a line of a page tells, or None."""
    word, *items = line.split(" ")
    return tuple(items) if word == "fact" and is_fact(tuple(items)) else None


def piece_of(line):
    """The pair of the piece and the draft that a line of a page tells, or None."""
    piece, _, text = line.partition(" = ")
    if not is_name(piece):
        return None
    try:
        return piece, read_net(text)
    except InvalidText:
        return None


def may_follow(piece, drafts):
    """Whether the line of a piece may stand behind those of the drafts."""
    return len(drafts) < Shelf.MOST and all([piece > earlier for earlier in drafts])


def read_page(text):
    """The shelf of a page."""
    if not isinstance(text, str):
        raise InvalidPage(0)
    *lines, rest = text.split("\n")
    facts = []
    drafts = {}
    for at, line in enumerate(lines):
        fact = fact_of(line)
        told = piece_of(line)
        if fact is not None and not drafts:
            facts.append(fact)
        elif told is not None and may_follow(told[0], drafts):
            drafts[told[0]] = told[1]
        else:
            raise InvalidPage(at)
    if rest:
        raise InvalidPage(len(lines))
    nets = nets_of(drafts)
    for at, piece in enumerate(drafts):
        if piece not in nets:
            raise InvalidPage(len(facts) + at)
    return filled_shelf(Stock(drafts, nets, facts))
