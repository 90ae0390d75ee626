"""The rows of a text of a field, by their sorts; BadText alone is told here."""

from tunehall.errors import BadText
from tunehall.signs import is_name, number_in, words_of

MOST_SIGNS = 8000
MOST_ROWS = 700
# The sorts of rows in the order in which they stand: the first word, what
# each word behind it is, how many rows there are at least and at most.
SORTS = (
    ("tunes", ("number",), 1, 1),
    ("near", ("number", "number"), 1, 5),
    ("station", ("name", "number", "number"), 1, 24),
    ("apart", ("name", "name", "number"), 0, 200),
    ("fix", ("name", "number"), 0, 200),
    ("bar", ("name", "number"), 0, 200),
)


def rows_of(text):
    """The rows of a text as they are written."""
    if not isinstance(text, str) or len(text) > MOST_SIGNS:
        raise BadText(None)
    rows = text.split("\n")
    if len(rows) > MOST_ROWS:
        raise BadText(None)
    return rows


def thing_in(kind, word):
    """The name or the number that a word writes, None where it writes none."""
    if kind == "number":
        return number_in(word)
    return word if is_name(word) else None


def sort_of(word):
    """The number of the sort of row that a word begins, None of another word."""
    for sort, form in enumerate(SORTS):
        if form[0] == word:
            return sort
    return None


def row_told(words):
    """(sort, names and numbers) of the words of a row, None of no such row."""
    sort = sort_of(words[0])
    if sort is None:
        return None
    kinds = SORTS[sort][1]
    if len(words) != len(kinds) + 1:
        return None
    things = [thing_in(kind, word) for kind, word in zip(kinds, words[1:])]
    return None if None in things else (sort, tuple(things))


def sorted_rows(rows):
    """A list of (row's number, names and numbers) for each sort."""
    told = [[] for _ in SORTS]
    last = 0
    for at, row in enumerate(rows):
        words = words_of(row)
        if not words:
            continue
        found = row_told(words)
        if found is None:
            raise BadText(at)
        sort, things = found
        if sort < last or len(told[sort]) == SORTS[sort][3]:
            raise BadText(at)
        told[sort].append((at, things))
        last = sort
    if any([len(group) < form[2] for group, form in zip(told, SORTS)]):
        raise BadText(len(rows))
    return told
