"""Shelves: nets that may use one another, and facts, with their history."""

from unopened.comparing import are_alike
from unopened.errors import InvalidCommand, InvalidLimit
from unopened.names import is_name, is_number
from unopened.steps import Steps
from unopened.stocks import Stock, is_command


def stays(before, now, pair):
    """Whether what was asked about a pair of pieces is asked in the same way now."""
    if before.known != now.known:
        return False
    return all([piece in now.nets and before.nets[piece] == now.nets[piece] for piece in pair])


def filled_shelf(stock):
    """A shelf with the greatest limit, without steps, on which this stands."""
    made = Shelf(limit=Shelf.MOST)
    made._steps = Steps(stock)
    return made


class Shelf:
    """Nets by pieces, and facts."""

    MOST = 12

    def __init__(self, *, limit=8):
        self._steps = Steps(Stock({}, {}, []))
        self._kept = {}
        self._computed = 0
        self._busy = False
        self.set_limit(limit)

    def pieces(self):
        """The ascending list of the pieces."""
        return sorted(list(self._steps.now.drafts))

    @property
    def limit(self):
        """How many pieces there may be."""
        return self._limit

    @limit.setter
    def limit(self, value):
        if not is_number(value, max(1, len(self._steps.now.drafts)), self.MOST):
            raise InvalidLimit(value)
        self._limit = value

    def set_limit(self, value):
        """Assigns the limit."""
        self.limit = value

    def apply(self, *commands):
        """Does all commands, or none, as one step."""
        self._busy = True
        try:
            for at, command in enumerate(commands):
                if not is_command(command):
                    raise InvalidCommand(at)
            stock = self._steps.now
            for command in commands:
                stock = stock.behind(command, self._limit)
            if commands:
                before = self._steps.now
                self._steps.go_to(stock)
                self._forget(before)
        finally:
            self._busy = False

    def undo(self):
        """Takes the last step back."""
        before = self._steps.now
        self._steps.go_back()
        self._forget(before)

    def redo(self):
        """Makes the step again that was undone last."""
        before = self._steps.now
        self._steps.go_again()
        self._forget(before)

    def _forget(self, before):
        """Drops the answers that need not be the same as with the stock before."""
        now = self._steps.now
        self._kept = {pair: self._kept[pair] for pair in self._kept if stays(before, now, pair)}

    def history(self):
        """The pair of the numbers of steps that can be undone and redone."""
        return self._steps.counts()

    @property
    def busy(self):
        """Whether commands are being done."""
        return self._busy

    def net_of(self, piece):
        """The net of a piece."""
        self._steps.now.check_there(piece)
        return self._steps.now.nets[piece]

    def text(self, piece):
        """The text of the net of a piece."""
        return self.net_of(piece).text()

    def users(self, piece):
        """The ascending list of the pieces that use a piece directly."""
        self._steps.now.check_there(piece)
        return self._steps.now.users_of(piece)

    def facts(self):
        """The list of the facts."""
        return list(self._steps.now.known)

    def alike(self, one, other):
        """Whether the nets of two pieces are alike under the facts; the answer is kept."""
        first = self.net_of(one)
        second = self.net_of(other)
        if (one, other) not in self._kept:
            self._kept[one, other] = are_alike(first, second, facts=self._steps.now.known)
            self._computed = self._computed + 1
        return self._kept[one, other]

    def kept(self):
        """The ascending list of the pairs whose answers are kept."""
        return sorted(list(self._kept))

    @property
    def computed(self):
        """How many answers were computed without an error."""
        return self._computed

    def twin(self):
        """An independent shelf in the same state, with its steps, limit, kept answers and count."""
        made = Shelf(limit=self._limit)
        made._steps = self._steps.forked()
        made._kept = {pair: self._kept[pair] for pair in self._kept}
        made._computed = self._computed
        return made

    def __contains__(self, piece):
        return is_name(piece) and piece in self._steps.now.drafts

    def __eq__(self, other):
        return (isinstance(other, Shelf) and self._steps.now.drafts == other._steps.now.drafts
                and self._steps.now.known == other._steps.now.known)

    def __len__(self):
        return len(self._steps.now.drafts)

    def __bool__(self):
        return True

    def __repr__(self):
        return f"Shelf({len(self._steps.now.drafts)} pieces)"
