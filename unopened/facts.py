"""Facts about boxes, and the groups into which they join the names of boxes."""

from unopened.errors import InvalidFact, UnlikeKinds
from unopened.names import is_name
from unopened.sheets import unlike_name

# The kinds of boxes with one end, from the narrowest one on.
NARROWEST = ("odd", "plain", "keep")


def is_fact(value):
    """Whether any value is a fact."""
    if not isinstance(value, tuple) or len(value) < 2 or not all([is_name(name) for name in value[1:]]):
        return False
    if value[0] == "same":
        return len(value) == 3
    return value[0] in ("dead", "odd", "plain") and len(value) == 2


def check_facts(facts):
    """Raises the error of the first value that is no fact."""
    for at, fact in enumerate(facts):
        if not is_fact(fact):
            raise InvalidFact(at)


def merge(one, other, labels, members):
    """Gives the names of two groups one label."""
    # Only the names of the smaller group get another label, which keeps long lists of facts fast.
    small, great = (one, other) if len(members[one]) < len(members[other]) else (other, one)
    for name in members[small]:
        labels[name] = great
    members[great].extend(members[small])


def labels_of(names, facts):
    """A dict from these names and those in the facts to labels, which are equal for the names of one group."""
    told = [name for fact in facts for name in fact[1:]]
    labels = {name: name for name in [*names, *told]}
    members = {name: [name] for name in labels}
    for fact in facts:
        if fact[0] == "same" and labels[fact[1]] != labels[fact[2]]:
            merge(labels[fact[1]], labels[fact[2]], labels, members)
    return labels


def kind_of(words):
    """The kind of a group by the kinds of its names and the words of its facts, None for a forbidden group."""
    found = [kind for kind in NARROWEST if kind in words]
    if "pair" in words:
        return None if found else "pair"
    return found[0] if found else ""


def groups(things, facts=()):
    """The ascending list of the tuples (names, kind, dead) of the groups of names of boxes."""
    unlike = unlike_name(things)
    if unlike is not None:
        raise UnlikeKinds(unlike)
    check_facts(facts)
    kinds = {}
    for thing in things:
        kinds.update(thing.kinds())
    labels = labels_of(list(kinds), facts)
    members = {}
    for name in sorted(list(labels)):
        members.setdefault(labels[name], []).append(name)
    words = {label: [] for label in members}
    for name in kinds:
        words[labels[name]].append(kinds[name])
    for fact in facts:
        words[labels[fact[1]]].append(fact[0])
    made = [(tuple(members[label]), kind_of(words[label]), "dead" in words[label]) for label in members]
    for names, kind, _ in made:
        if kind is None:
            raise UnlikeKinds(names[0])
    return made


def keeps(opened, facts):
    """Whether opened boxes keep the facts; names that opened lacks are not looked at."""
    check_facts(facts)
    return all([keeps_fact(opened, fact) for fact in facts])


def keeps_fact(opened, fact):
    """Whether opened boxes keep one fact."""
    if not all([name in opened for name in fact[1:]]):
        return True
    box = opened[fact[1]]
    if fact[0] == "same":
        return box == opened[fact[2]]
    if fact[0] == "dead":
        return box.dead
    return box.KIND == "odd" or box.KIND == fact[0]
