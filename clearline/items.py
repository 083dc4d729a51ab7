"""Changes of tuples."""


def exchanged(items, at, item):
    """The items with another one at this place."""
    return items[:at] + (item,) + items[at + 1:]
