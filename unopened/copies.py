"""Copies of any values, and tuples in the place of lists."""


def copied(value):
    """Any value, with new lists and dicts throughout."""
    if isinstance(value, list):
        return [copied(item) for item in value]
    if isinstance(value, tuple):
        return tuple([copied(item) for item in value])
    if isinstance(value, dict):
        return {key: copied(value[key]) for key in value}
    return value


def listed(value):
    """A copy of any value, a list if it is a tuple."""
    return copied(list(value)) if isinstance(value, tuple) else copied(value)


def listed_within(value):
    """A copy of any value, a list if it is a tuple; if it is a list then, so are the tuples in it."""
    made = listed(value)
    return [listed(item) for item in made] if isinstance(made, list) else made


def listed_values(value):
    """A copy of any value; if it is a dict, the tuples that are its values are lists."""
    return {key: listed(value[key]) for key in value} if isinstance(value, dict) else copied(value)
