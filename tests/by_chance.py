"""Small nets, facts and opened boxes by chance, for tests that compare many of them."""

from unopened.boxes import Keep, Odd, Pair, Plain
from unopened.errors import Ring, TooMany, UnlikeKinds
from unopened.facts import groups
from unopened.nets import Net
from unopened.sheets import joined

KINDS = ["plain", "odd", "keep", "pair"]
BOXES = {"plain": Plain, "odd": Odd, "keep": Keep, "pair": Pair}


def kinds_by(chance):
    """Kinds for the boxes f, g and h, often the same one."""
    kind = chance.choice(KINDS)
    return {name: kind if chance.random() < 0.6 else chance.choice(KINDS) for name in "fgh"}


def net_by(chance, kinds, outs=1):
    """A net with some mixes and boxes, so that boxes with copies and rings with delay are likely."""
    sources, mine = ["u", "v"][:chance.randint(1, 2)], list("abcdef")[:chance.randint(2, 6)]
    parts = [("source", wire) for wire in sources]
    for at, wire in enumerate(mine):
        earlier = sources + mine[:at]
        if chance.random() < 0.5:
            terms = []
            for _ in range(chance.randint(0, 3)):
                delay = chance.choice([0, 0, 1, 1, 2])
                end = chance.choice(earlier if delay == 0 else sources + mine)
                terms.append((chance.choice([1, 1, 1, -1, -1, 2]), delay, end))
            parts.append(("mix", wire, tuple(terms)))
        else:
            name = chance.choice("fgh")
            ends = [chance.choice(earlier) for _ in range(2 if kinds[name] == "pair" else 1)]
            parts.append((kinds[name], wire, name, *ends))
    chance.shuffle(parts)
    return Net(parts, [chance.choice(sources + mine) for _ in range(outs)])


def facts_by(chance, most=2):
    words = [chance.choice(["same", "same", "dead", "odd", "plain"]) for _ in range(chance.randint(0, most))]
    return [(word, *[chance.choice("fghx") for _ in range(2 if word == "same" else 1)]) for word in words]


def disguised(chance, net):
    """A net that is alike: a wire goes through a mix, or a box is there twice, and some parts hear the new wire."""
    wire = chance.choice(net.wires())
    part = next(part for part in net.parts() if part[1] == wire)
    copy = (part[0], "z", *part[2:]) if part[0] in KINDS else ("mix", "z", ((1, 0, wire),))
    parts = []
    for part in net.parts():
        if part[0] == "mix" and chance.random() < 0.7:
            terms = tuple((times, delay, "z" if end == wire else end) for times, delay, end in part[2])
            part = (*part[:2], terms)
        elif part[0] in KINDS and chance.random() < 0.7:
            part = (*part[:3], *["z" if end == wire else end for end in part[3:]])
        parts.append(part)
    return Net([*parts, copy], net.outs())


def bent(chance, net):
    """A net that differs in one term with a delay, if there is one."""
    places = [(at, k) for at, part in enumerate(net.parts()) if part[0] == "mix"
              for k, (_, delay, _) in enumerate(part[2]) if delay]
    if not places:
        return net
    at, k = chance.choice(places)
    parts = net.parts()
    times, delay, end = parts[at][2][k]
    term = chance.choice([(times + 1, delay, end), (times, delay + 1, end)])
    parts[at] = (*parts[at][:2], (*parts[at][2][:k], term, *parts[at][2][k + 1:]))
    return Net(parts, net.outs())


def other_by(chance, one, kinds):
    """A net to compare with this one."""
    many = len(one.outs())
    word = chance.choice(["new", "tapped", "disguised", "bent", "bent"])
    if word == "new":
        return net_by(chance, kinds, many)
    if word == "tapped":
        return one.tapped(*[chance.choice(one.wires()) for _ in range(many)])
    return disguised(chance, one) if word == "disguised" else bent(chance, disguised(chance, one))


def two_nets_by(chance):
    """Two nets with equally many outputs, and facts that fit both."""
    while True:
        kinds = kinds_by(chance)
        one = net_by(chance, kinds, chance.randint(1, 2))
        facts = facts_by(chance)
        try:
            other = other_by(chance, one, kinds)
            joined(one, other)
            groups([one, other], facts)
        except (UnlikeKinds, TooMany, Ring):
            continue
        return one, other, facts


def signals_by(chance, sources, beats):
    return {name: [chance.choice([0, 0, 1, -1, 2, -3, 7]) for _ in range(beats)] for name in sources}


def opened_by(chance, found):
    """Opened boxes for all names of the groups, which keep the facts that made the groups."""
    opened = {}
    for names, kind, dead in found:
        line, curve = (0, 0) if dead else (chance.randint(-3, 3), chance.randint(-3, 3))
        box = BOXES[kind or "plain"](line=line, curve=curve, modulus=chance.choice([7, 50, 1000]))
        opened.update({name: box for name in names})
    return opened
