"""Desks: shelves that are asked and changed by lines of words."""

from unopened.claims import lateness
from unopened.comparing import first_beat
from unopened.errors import Missing, NothingLeft, UnopenedError
from unopened.lean import fewest


def answer_nets(shelf, words):
    """The pieces."""
    return " ".join(shelf.pieces()) if shelf.pieces() else "none"


def answer_show(shelf, words):
    """The text of a piece."""
    return shelf.text(words[1])


def answer_alike(shelf, words):
    """Whether two pieces are alike."""
    return "alike" if shelf.alike(words[1], words[2]) else "differ"


def answer_beat(shelf, words):
    """The first beat at which two pieces can differ."""
    beat = first_beat(shelf.net_of(words[1]), shelf.net_of(words[2]), facts=shelf.facts())
    return "never" if beat is None else str(beat)


def answer_boxes(shelf, words):
    """The fewest boxes that will do for a piece."""
    counts = fewest(shelf.net_of(words[1]), facts=shelf.facts())
    return " ".join([f"{name} {counts[name]}" for name in counts]) if counts else "none"


def answer_hears(shelf, words):
    """The least lag with which a wire of a piece hears a source."""
    lag = lateness(shelf.net_of(words[1]), words[3], words[2], facts=shelf.facts())
    return "never" if lag is None else str(lag)


def answer_text(shelf, words):
    """Puts or changes a piece."""
    shelf.apply((words[0], words[1], " ".join(words[2:])))
    return "done"


def answer_drop(shelf, words):
    """Drops a piece."""
    shelf.apply(("drop", words[1]))
    return "done"


def answer_undo(shelf, words):
    """Undoes a step."""
    shelf.undo()
    return "done"


def answer_redo(shelf, words):
    """Redoes a step."""
    shelf.redo()
    return "done"


# What answers the lines that begin with these words.
ANSWERS = {
    "nets": answer_nets, "show": answer_show, "alike": answer_alike, "beat": answer_beat, "boxes": answer_boxes,
    "hears": answer_hears, "put": answer_text, "change": answer_text, "drop": answer_drop, "undo": answer_undo,
    "redo": answer_redo,
}
# How many words such a line has; put and change have a text behind them, which may have more than one word.
LENGTHS = {
    "nets": 1, "show": 2, "alike": 3, "beat": 3, "boxes": 2, "hears": 4, "put": 3, "change": 3, "drop": 2, "undo": 1,
    "redo": 1,
}


def is_known(line, words):
    """Whether a line with these words is one that is answered."""
    if "\n" in line or "" in words or words[0] not in ANSWERS:
        return False
    if words[0] in ("put", "change"):
        return len(words) >= LENGTHS[words[0]]
    return len(words) == LENGTHS[words[0]]


class Desk:
    """A desk at which a shelf is asked and changed."""

    def __init__(self, shelf):
        self._shelf = shelf
        self._log = []

    def say(self, line):
        """The answer to a line."""
        words = line.split(" ")
        answer = "unknown"
        if is_known(line, words):
            action = ANSWERS[words[0]]
            try:
                answer = action(self._shelf, words)
            except (UnopenedError, Missing, NothingLeft) as error:
                answer = f"error {error.code}"
        self._log.append((line, answer))
        return answer

    def __call__(self, line):
        return self.say(line)

    @property
    def shelf(self):
        """The shelf."""
        return self._shelf

    def log(self):
        """The list of the pairs (line, answer)."""
        return list(self._log)

    def __len__(self):
        return len(self._log)

    def __bool__(self):
        return True

    def __repr__(self):
        return f"Desk({len(self._log)} lines)"
