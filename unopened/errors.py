"""The errors of the package. Each one but the two base classes has a code, the name of its class."""


class UnopenedError(ValueError):
    """What was passed cannot be used."""


class InvalidName(UnopenedError):
    """The value is no name."""

    def __init__(self, value):
        self.code = "InvalidName"
        self.value = value


class InvalidNumber(UnopenedError):
    """The value is no number within its bounds."""

    def __init__(self, value):
        self.code = "InvalidNumber"
        self.value = value


class InvalidSeries(UnopenedError):
    """The top or the bottom of a series is wrong."""

    def __init__(self):
        self.code = "InvalidSeries"


class NoInverse(UnopenedError):
    """No series gives 1 when multiplied with this one."""

    def __init__(self):
        self.code = "NoInverse"


class TooEarly(UnopenedError):
    """What has this order cannot be made that much earlier."""

    def __init__(self, order):
        self.code = "TooEarly"
        self.order = order


class InvalidPart(UnopenedError):
    """The value with this index is no part."""

    def __init__(self, at):
        self.code = "InvalidPart"
        self.at = at


class InvalidOuts(UnopenedError):
    """The output with this index is no name, or there are too few or too many."""

    def __init__(self, at):
        self.code = "InvalidOuts"
        self.at = at


class InvalidUse(UnopenedError):
    """The part with this index gives a piece the wrong number of ends."""

    def __init__(self, at):
        self.code = "InvalidUse"
        self.at = at


class InvalidText(UnopenedError):
    """The word with this index cannot stand there, or the text ends there."""

    def __init__(self, word):
        self.code = "InvalidText"
        self.word = word


class InvalidForm(UnopenedError):
    """The series of a form, or what they belong to, are wrong."""

    def __init__(self):
        self.code = "InvalidForm"


class InvalidSheet(UnopenedError):
    """The box or the output with this index does not fit into a sheet."""

    def __init__(self, at):
        self.code = "InvalidSheet"
        self.at = at


class InvalidTable(UnopenedError):
    """The entry of a table with this key is wrong."""

    def __init__(self, key):
        self.code = "InvalidTable"
        self.key = key


class InvalidFact(UnopenedError):
    """The value with this index is no fact."""

    def __init__(self, at):
        self.code = "InvalidFact"
        self.at = at


class InvalidDeed(UnopenedError):
    """The value with this index is no deed."""

    def __init__(self, at):
        self.code = "InvalidDeed"
        self.at = at


class InvalidCommand(UnopenedError):
    """The value with this index is no command."""

    def __init__(self, at):
        self.code = "InvalidCommand"
        self.at = at


class InvalidPage(UnopenedError):
    """The line with this index cannot stand on a page."""

    def __init__(self, line):
        self.code = "InvalidPage"
        self.line = line


class InvalidLimit(UnopenedError):
    """The value is no limit of a shelf."""

    def __init__(self, value):
        self.code = "InvalidLimit"
        self.value = value


class DuplicateName(UnopenedError):
    """The name is set a second time."""

    def __init__(self, name):
        self.code = "DuplicateName"
        self.name = name


class UnlikeKinds(UnopenedError):
    """The box of this name would have unlike kinds."""

    def __init__(self, name):
        self.code = "UnlikeKinds"
        self.name = name


class UnlikeOuts(UnopenedError):
    """The numbers of outputs are unlike."""

    def __init__(self):
        self.code = "UnlikeOuts"


class Ring(UnopenedError):
    """The place lies on a ring without delay."""

    def __init__(self, place):
        self.code = "Ring"
        self.place = place


class Circular(UnopenedError):
    """The piece would use itself."""

    def __init__(self, piece):
        self.code = "Circular"
        self.piece = piece


class InUse(UnopenedError):
    """The piece is used by another one."""

    def __init__(self, piece, user):
        self.code = "InUse"
        self.piece = piece
        self.user = user


class Full(UnopenedError):
    """There are as many pieces as the limit allows."""

    def __init__(self, limit):
        self.code = "Full"
        self.limit = limit


class TooMany(UnopenedError):
    """There are more of the subject than the most that are allowed."""

    def __init__(self, subject, most):
        self.code = "TooMany"
        self.subject = subject
        self.most = most


class Missing(LookupError):
    """What was asked for is not there."""


class UnknownName(Missing):
    """Nothing has this name."""

    def __init__(self, name):
        self.code = "UnknownName"
        self.name = name


class UnknownPiece(Missing):
    """No piece has this name."""

    def __init__(self, piece):
        self.code = "UnknownPiece"
        self.piece = piece


class NothingLeft(IndexError):
    """There is no step left to undo or to redo."""

    def __init__(self):
        self.code = "NothingLeft"
