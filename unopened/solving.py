"""The forms of the wires of a net: its mixes are taken out one by one.

Until then each mix stands in the forms as if it were a box, with a number behind those of the boxes.
"""

from unopened.forms import Form
from unopened.series import Series


def replaced(form, number, given):
    """A form in which another form stands in the place of the box with this number."""
    times = form.box(number)
    if not times:
        return form
    return form - Form(boxes={number: times}) + given * times


def freed(form, number):
    """The form of the mix with this number, by a form in which it may stand itself."""
    times = form.box(number)
    if not times:
        return form
    # Without a ring without delay the series of a mix in itself begins with 0, so there is an inverse.
    return (form - Form(boxes={number: times})) * (1 - times).inverse()


def cost_of(number, waiting):
    """How much work it is to take out a mix; one that stands in itself brings quotients, and is the worst."""
    users = [each for each in waiting if waiting[each].box(number)]
    return (number in users, len(users) * len(waiting[number].boxes()), number)


def solved(equations):
    """The forms of all mixes, without mixes in them; equations has their forms with mixes, by their numbers."""
    waiting = dict(equations)
    taken = []
    while waiting:
        _, _, number = min([cost_of(each, waiting) for each in waiting])
        form = freed(waiting[number], number)
        taken.append((number, form))
        waiting = {each: replaced(waiting[each], number, form) for each in waiting if each != number}
    found = {}
    for number, form in reversed(taken):
        full = form
        for each in form.boxes():
            if each in found:
                full = replaced(full, each, found[each])
        found[number] = full
    return found


def sum_of_terms(terms, units):
    """The form of a mix with these terms, by the forms of the wires in them."""
    made = Form()
    for factor, delay, wire in terms:
        made = made + (units[wire] * factor << delay)
    return made


def forms_of(net):
    """A dict from the wires of the plain net to their forms."""
    plain = net.plain()
    mixes = [part[1] for part in plain if part[0] == "mix"]
    boxes = [wire for wire, _, _ in net.boxes()]
    numbers = {wire: number for number, wire in enumerate([*boxes, *mixes])}
    units = {wire: Form(boxes={numbers[wire]: Series([1])}) for wire in numbers}
    for source in net.sources():
        units[source] = Form({source: Series([1])})
    found = solved({numbers[part[1]]: sum_of_terms(part[2], units) for part in plain if part[0] == "mix"})
    return {wire: found[numbers[wire]] if wire in mixes else units[wire] for wire in net.wires()}
