"""The text of a net: writing it, and reading it word by word."""

from unopened.errors import InvalidText
from unopened.names import is_name, is_number

MOST_FACTOR = 99
MOST_DELAY = 4
MOST_TERMS = 6
MOST_ENDS = 4
MOST_OUTS = 4


def text_of(parts, outs):
    """The text of parts and outputs."""
    words = []
    for part in parts:
        words.extend(words_of_part(part))
        words.append(";")
    return " ".join([*words, ">", *outs])


def words_of_part(part):
    """The words of one part."""
    kind, wire, *items = part
    if kind == "mix":
        return [wire, kind, *words_of_terms(items[0])]
    if kind == "use":
        return [wire, kind, items[0], *items[1]]
    return [wire, kind, *items]


def words_of_terms(terms):
    """The words of the terms of a mix."""
    words = []
    for at, (factor, delay, wire) in enumerate(terms):
        if at > 0:
            words.append(",")
        words.extend([str(factor), wire])
        if delay != 0:
            words.extend(["late", str(delay)])
    return words


def number_of(word):
    """The number that a word of a text writes, or None; numbers of more than two digits stand in no text."""
    if len(word) > 3 or not word.removeprefix("-").isdecimal():
        return None
    # Other digits than 0 to 9, leading zeros and -0 are read by int, but not written by str.
    return int(word) if str(int(word)) == word else None


class Words:
    """The words of a text, of which the one at the index at is read next."""

    def __init__(self, text):
        self.words = text.split(" ")
        self.at = 0

    def ahead(self):
        """The word that is read next, None behind the last one."""
        return self.words[self.at] if self.at < len(self.words) else None

    def take(self, *choices):
        """Reads one of these words."""
        word = self.ahead()
        if word not in choices:
            raise InvalidText(self.at)
        self.at = self.at + 1
        return word

    def take_name(self):
        """Reads a name."""
        word = self.ahead()
        if not is_name(word):
            raise InvalidText(self.at)
        self.at = self.at + 1
        return word

    def take_names(self, most):
        """Reads names as long as they follow, but no more than most."""
        names = []
        while len(names) < most and is_name(self.ahead()):
            names.append(self.take_name())
        return tuple(names)

    def take_number(self, least, most):
        """Reads a number from least to most."""
        word = self.ahead()
        number = None if word is None else number_of(word)
        if not is_number(number, least, most):
            raise InvalidText(self.at)
        self.at = self.at + 1
        return number


def read_term(words):
    """Reads a term of a mix."""
    factor = words.take_number(-MOST_FACTOR, MOST_FACTOR)
    wire = words.take_name()
    delay = 0
    if words.ahead() == "late":
        words.take("late")
        delay = words.take_number(1, MOST_DELAY)
    return (factor, delay, wire)


def read_terms(words):
    """Reads the terms of a mix, of which there may be none."""
    if words.ahead() == ";":
        return ()
    terms = [read_term(words)]
    while words.ahead() == "," and len(terms) < MOST_TERMS:
        words.take(",")
        terms.append(read_term(words))
    return tuple(terms)


def read_part(words):
    """Reads a part, without the word that separates it from what follows."""
    wire = words.take_name()
    kind = words.take("source", "mix", "plain", "odd", "keep", "pair", "use")
    if kind == "source":
        return (kind, wire)
    if kind == "mix":
        return (kind, wire, read_terms(words))
    name = words.take_name()
    if kind == "use":
        return (kind, wire, name, words.take_names(MOST_ENDS))
    end = words.take_name()
    if kind == "pair":
        return (kind, wire, name, end, words.take_name())
    return (kind, wire, name, end)


def read_net(text):
    """The pair of the parts and the outputs of a text."""
    if not isinstance(text, str):
        raise InvalidText(0)
    words = Words(text)
    parts = []
    while words.ahead() != ">":
        parts.append(read_part(words))
        words.take(";")
    words.take(">")
    first = words.take_name()
    others = words.take_names(MOST_OUTS - 1)
    if words.ahead() is not None:
        raise InvalidText(words.at)
    return tuple(parts), (first, *others)
