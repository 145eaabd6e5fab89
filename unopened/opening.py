"""Signals and opened boxes that do what a free run did: its symbols get numbers."""

from unopened.boxes import Keep, Odd, Pair, Plain


def numbers_by(attempt, many):
    """Numbers above 0 for so many symbols, the same ones for the same attempt."""
    # They are powers of a factor, cut to their last bits, and look as if by chance. The cut grows faster than the
    # factor. Attempts that are late enough cut nothing and have a factor so great that no two values become equal.
    factor = (1 << (4 * attempt)) + 5
    last_bits = (1 << (8 * attempt * attempt)) - 1
    made = []
    number = 1
    for _ in range(many):
        made.append(number)
        number = (number * factor) & last_bits
    return made


def number_of(value, numbers):
    """The number that a value is if its symbols have these numbers."""
    return sum([factor * numbers[symbol] for symbol, factor in value])


def values_in(kind, asked):
    """The values other than 0 at the ends of the boxes of a group of this kind, by what they asked."""
    if kind == "keep":
        return {value: True for _, value in asked if value}
    return {value: True for key in asked for value in key if value}


def are_apart(kind, asked, numbers):
    """Whether no value other than 0 at the ends of a group becomes 0, and no two values become equal."""
    values = values_in(kind, asked)
    found = {}
    for value in values:
        number = number_of(value, numbers)
        # An odd box answers alike to a value and its opposite, but for the sign.
        found[abs(number) if kind == "odd" else number] = True
    return 0 not in found and len(found) == len(values)


def numbers_for(run, found, parted):
    """Numbers for the symbols of a free run: all that the boxes tell apart stays so, and parted does not become 0."""
    attempt = 1
    while True:
        numbers = numbers_by(attempt, run.many)
        apart = [are_apart(kind, asked, numbers) for (_, kind, _), asked in zip(found, run.asked)]
        if all(apart) and number_of(parted, numbers) != 0:
            return numbers
        attempt = attempt + 1


def odd_table(asked, numbers):
    """The table of an Odd that answers as in the free run."""
    table = {}
    for key in asked:
        number = number_of(key[0], numbers)
        answer = numbers[asked[key]]
        table[abs(number)] = answer if number > 0 else -answer
    return table


def pair_table(asked, numbers):
    """The table of a Pair that answers as in the free run."""
    table = {}
    for one, other in asked:
        ends = sorted([number_of(one, numbers), number_of(other, numbers)])
        table[tuple(ends)] = numbers[asked[one, other]]
    return table


def keep_table(asked, numbers):
    """The table of a Keep that answers as in the free run."""
    rows_heard = {None: ()}
    table = {}
    for before, value in asked:
        symbol = asked[before, value]
        rows_heard[symbol] = (*rows_heard[before], number_of(value, numbers))
        table[rows_heard[symbol]] = numbers[symbol]
    return table


def opened_box(kind, asked, numbers):
    """An opened box of this kind that answers as in the free run; what was not asked is answered by 0."""
    if kind == "odd":
        return Odd(odd_table(asked, numbers))
    if kind == "pair":
        return Pair(pair_table(asked, numbers))
    if kind == "keep":
        return Keep(keep_table(asked, numbers))
    return Plain({number_of(key[0], numbers): numbers[asked[key]] for key in asked})


def signals_for(run, numbers):
    """The signals of the sources of a free run whose symbols have these numbers."""
    return {name: [numbers[symbol] for symbol, _ in run.came[name]] for name in run.came}


def boxes_for(run, found, numbers):
    """A dict from the names in the groups to opened boxes that answer as in the free run."""
    opened = {}
    for (names, kind, _), asked in zip(found, run.asked):
        box = opened_box(kind, asked, numbers)
        for name in names:
            opened[name] = box
    return opened
