"""What leads to what without delay: rings, and an order in which everything comes behind what it leads to.

Both functions take a dict from places, integers or strings, to the lists of the places that they lead to.
"""


def reached_from(place, leads):
    """A dict that has as its keys the places that are reached from this one in one step or more."""
    reached = {}
    waiting = list(leads[place])
    while waiting:
        at = waiting.pop()
        if at not in reached:
            reached[at] = True
            waiting.extend(leads[at])
    return reached


def first_on_ring(leads):
    """The first place, in the order of the dict, that leads back to itself, or None."""
    for place in leads:
        if place in reached_from(place, leads):
            return place
    return None


def in_order(leads):
    """The places without rings: again and again the first one all of whose leads are in the list."""
    made = []
    done = {}
    while len(made) < len(leads):
        ready = [place for place in leads if place not in done and all([at in done for at in leads[place]])]
        made.append(ready[0])
        done[ready[0]] = True
    return made
