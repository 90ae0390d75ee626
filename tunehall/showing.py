"""Showing: a field is told as a text, which is read as this field again."""

from tunehall.signs import ROW_WORDS


def shown(field):
    """The text of a field."""
    # MANY stands alone; a row of its own makes it like all the others.
    groups = [((field[0],),), *field[1:]]
    rows = [row_shown(word, things) for word, group in zip(ROW_WORDS, groups) for things in group]
    return "\n".join(rows)


def row_shown(word, things):
    """The row that a word begins, with names and numbers behind it."""
    return " ".join([word, *[str(thing) for thing in things]])
