"""Reading: a text is told as a field, or refused."""

from tunehall.errors import BadNumber, Lacking, Twice
from tunehall.rows import rows_of, sorted_rows

MOST_TUNES = 60
FARTHEST = 1000000
MOST_GAP = 5


def read(text):
    """The field that a text tells."""
    # All rows are looked at for BadText before any number or name is.
    tunes, rules, stations, pairs, fixed, barred = sorted_rows(rows_of(text))
    many = many_of(tunes)
    need_rules(rules)
    names = names_of(stations)
    need_pairs(pairs, names)
    need_fixed(fixed, names, many)
    need_barred(barred, names, many)
    return (many, told(rules), told(stations), told(pairs), told(fixed), told(barred))


def told(rows):
    """What rows tell, without their numbers."""
    return tuple([things for _, things in rows])


def need_between(at, number, low, high):
    """BadNumber for row at, of a number that isn't from low to high."""
    if not low <= number <= high:
        raise BadNumber(at)


def many_of(rows):
    """How many tunes there are."""
    at, (many,) = rows[0]
    need_between(at, many, 1, MOST_TUNES)
    return many


def need_rules(rows):
    """The rows of near: ever farther, with ever smaller gaps."""
    # As if a row ahead of the first one left it just the bounds of all rows.
    last_far, last_gap = -1, MOST_GAP + 1
    for at, (far, gap) in rows:
        need_between(at, far, last_far + 1, FARTHEST)
        need_between(at, gap, 1, last_gap - 1)
        last_far, last_gap = far, gap


def names_of(rows):
    """The names of the stations, none of them twice."""
    names = []
    for at, (name, x, y) in rows:
        if name in names:
            raise Twice(at, name)
        need_between(at, x, -FARTHEST, FARTHEST)
        need_between(at, y, -FARTHEST, FARTHEST)
        names.append(name)
    return names


def need_known(at, wanted, names):
    """Lacking for row at, of the first wanted name that no station has."""
    for name in wanted:
        if name not in names:
            raise Lacking(at, name)


def need_pairs(rows, names):
    """The rows of apart: pairs of unlike stations, none twice, either way about."""
    pairs = []
    for at, (name, other, gap) in rows:
        need_known(at, (name, other), names)
        if name == other or (name, other) in pairs:
            raise Twice(at, name)
        need_between(at, gap, 0, MOST_GAP)
        pairs.extend([(name, other), (other, name)])


def need_fixed(rows, names, many):
    """The rows of fix: no station has two."""
    fixed = []
    for at, (name, tune) in rows:
        need_known(at, (name,), names)
        if name in fixed:
            raise Twice(at, name)
        need_between(at, tune, 0, many - 1)
        fixed.append(name)


def need_barred(rows, names, many):
    """The rows of bar: no station is barred a tune twice."""
    barred = []
    for at, (name, tune) in rows:
        need_known(at, (name,), names)
        if (name, tune) in barred:
            raise Twice(at, name)
        need_between(at, tune, 0, many - 1)
        barred.append((name, tune))
