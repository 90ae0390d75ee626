"""Copies of what is handed in."""


def own(thing):
    """The thing, its lists, tuples and dicts copied, within too.

    Whoever handed it in may change it later, and that must not be seen here.
    """
    if isinstance(thing, list):
        return [own(part) for part in thing]
    if isinstance(thing, tuple):
        return tuple([own(part) for part in thing])
    if isinstance(thing, dict):
        return {key: own(thing[key]) for key in thing}
    return thing
