"""What stands on a shelf, and what commands make of it.

A draft is the pair of the tuples of the parts and of the outputs of a piece.
"""

from unopened.errors import (
    Circular, DuplicateName, Full, InUse, InvalidName, Missing, UnknownPiece, UnopenedError,
)
from unopened.facts import check_facts
from unopened.names import is_name
from unopened.nets import Net
from unopened.rings import reached_from
from unopened.texts import read_net

# The words of commands with a fixed number of items, and this number.
WORDS = {"put": 3, "change": 3, "drop": 2}


def is_command(value):
    """Whether any value is a tuple of the form of a command, whatever its pieces, texts and facts are."""
    if not isinstance(value, tuple) or not value or not isinstance(value[0], str):
        return False
    return value[0] == "facts" or (value[0] in WORDS and len(value) == WORDS[value[0]])


def used_in(draft):
    """The list of the pieces that a draft uses directly, in the order of its parts."""
    return [part[2] for part in draft[0] if part[0] == "use"]


def net_of_draft(draft, nets):
    """The net of a draft, by a dict of the nets of the pieces that it uses."""
    parts, outs = draft
    return Net(parts, outs, pieces={piece: nets[piece] for piece in used_in(draft) if piece in nets})


def nets_of(drafts):
    """A dict of the nets of those drafts that are nets."""
    nets = {}
    waiting = list(drafts)
    while waiting:
        ready = [piece for piece in waiting if all([used in nets for used in used_in(drafts[piece])])]
        if not ready:
            return nets
        for piece in ready:
            try:
                nets[piece] = net_of_draft(drafts[piece], nets)
            except (UnopenedError, Missing):
                pass
        waiting = [piece for piece in waiting if piece not in ready]
    return nets


class Stock:
    """The pieces and the facts of a shelf. It does not change: what commands make of it is another one.

    Attributes: drafts and nets, dicts from the pieces; known, the list of the facts.
    """

    def __init__(self, drafts, nets, known):
        self.drafts = drafts
        self.nets = nets
        self.known = known

    def behind(self, command, limit):
        """The stock behind a command, on a shelf with this limit."""
        word, *items = command
        if word == "facts":
            check_facts(items)
            return Stock(self.drafts, self.nets, items)
        if word == "drop":
            return self._without(items[0])
        piece, text = items
        if word == "put":
            self._check_new(piece, limit)
        else:
            self.check_there(piece)
        return self._with_text(piece, text)

    def check_there(self, piece):
        """Raises the error of any value that is no piece of the shelf."""
        if not is_name(piece) or piece not in self.drafts:
            raise UnknownPiece(piece)

    def users_of(self, piece):
        """The ascending list of the pieces that use this one directly."""
        return [user for user in sorted(list(self.drafts)) if piece in used_in(self.drafts[user])]

    def _check_new(self, piece, limit):
        """Raises the error of any value that cannot be put as a new piece."""
        if not is_name(piece):
            raise InvalidName(piece)
        if piece in self.drafts:
            raise DuplicateName(piece)
        if len(self.drafts) >= limit:
            raise Full(limit)

    def _with_text(self, piece, text):
        """The stock in which a piece has this text."""
        draft = read_net(text)
        drafts = {**self.drafts, piece: draft}
        for used in used_in(draft):
            if used not in drafts:
                raise UnknownPiece(used)
        if piece in reached_from(piece, {each: used_in(drafts[each]) for each in drafts}):
            raise Circular(piece)
        # Without a circle none of the pieces that it uses changes with it. This raises the errors of the net.
        net_of_draft(draft, self.nets)
        nets = nets_of(drafts)
        for user in sorted(list(drafts)):
            if user not in nets:
                raise InUse(piece, user)
        return Stock(drafts, nets, self.known)

    def _without(self, piece):
        """The stock without a piece."""
        self.check_there(piece)
        users = self.users_of(piece)
        if users:
            raise InUse(piece, users[0])
        return Stock({each: self.drafts[each] for each in self.drafts if each != piece},
                     {each: self.nets[each] for each in self.nets if each != piece}, self.known)
