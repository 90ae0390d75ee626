"""The signs of a text: names, numbers, and the words of a row."""

LETTERS = "abcdefghijklmnopqrstuvwxyz"
FIGURES = "0123456789"
# These words begin rows, so no station is called so.
ROW_WORDS = ("tunes", "near", "station", "apart", "fix", "bar")
MOST_NAME_SIGNS = 8
MOST_FIGURES = 7


def is_name(thing):
    """Whether something, of any kind, is a name."""
    if not isinstance(thing, str) or not 1 <= len(thing) <= MOST_NAME_SIGNS:
        return False
    if thing[0] not in LETTERS or thing in ROW_WORDS:
        return False
    return all([sign in LETTERS or sign in FIGURES for sign in thing])


def number_in(word):
    """The number that a word writes, None where it writes none."""
    if not isinstance(word, str):
        return None
    figures = word[1:] if word.startswith("-") else word
    if not 1 <= len(figures) <= MOST_FIGURES:
        return None
    # Not isdigit: that takes figures of other scripts, too.
    if not all([sign in FIGURES for sign in figures]):
        return None
    if figures[0] == "0" and word != "0":
        return None
    return int(word)


def words_of(row):
    """A list of the words of a row, those behind a # left out."""
    told = row.partition("#")[0]
    # Not split(): that parts at more than blanks.
    return [word for word in told.split(" ") if word]
