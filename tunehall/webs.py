"""Webs: which gap each two stations want, and which tunes each one may have."""

from tunehall.errors import BadWeb
from tunehall.reading import MOST_GAP, MOST_TUNES

MOST_STATIONS = 24


def web_of(field):
    """The web of a field, its stations in the field's order."""
    many, rules, stations, pairs, fixed, barred = field
    apart = gaps_apart(pairs)
    names = tuple([station[0] for station in stations])
    gaps = [tuple([gap_of(rules, apart, one, other) for other in stations]) for one in stations]
    lists = [list_of(name, many, fixed, barred) for name in names]
    return (names, many, tuple(gaps), tuple(lists))


def gaps_apart(pairs):
    """The gaps that rows of apart tell, by two names, either way about."""
    apart = {}
    for name, other, gap in pairs:
        apart[(name, other)] = gap
        apart[(other, name)] = gap
    return apart


def gap_of(rules, apart, station, other):
    """The gap of two stations, or of one with itself."""
    name, x, y = station
    other_name, other_x, other_y = other
    if name == other_name:
        return 0
    if (name, other_name) in apart:
        return apart[(name, other_name)]
    # Squares keep to whole numbers, where distances wouldn't.
    square = (x - other_x) ** 2 + (y - other_y) ** 2
    for far, gap in rules:
        if square <= far ** 2:
            return gap
    return 0


def list_of(name, many, fixed, barred):
    """The tunes that a station may have, as bits."""
    may = (1 << many) - 1
    for other, tune in fixed:
        if other == name:
            may = 1 << tune
    # Behind fixed, as what is barred isn't had even where it is fixed.
    for other, tune in barred:
        if other == name:
            may &= ~(1 << tune)
    return may


def is_whole(thing, low, high):
    """Whether something, of any kind, is a whole number from low to high."""
    # True and False are ints for Python.
    return isinstance(thing, int) and not isinstance(thing, bool) and low <= thing <= high


def are_whole(things, count, low, high):
    """Whether something, of any kind, is a tuple of so many whole numbers from low to high."""
    if not isinstance(things, tuple) or len(things) != count:
        return False
    return all([is_whole(thing, low, high) for thing in things])


def are_stations(things, count):
    """Whether something, of any kind, is a tuple of stations below count, rising."""
    if not isinstance(things, tuple) or not are_whole(things, len(things), 0, count - 1):
        return False
    return all([things[at - 1] < things[at] for at in range(1, len(things))])


def are_names(things):
    """Whether something, of any kind, is a web's NAMES."""
    if not isinstance(things, tuple) or not 1 <= len(things) <= MOST_STATIONS:
        return False
    if not all([isinstance(thing, str) for thing in things]):
        return False
    return len(set(things)) == len(things)


def are_gaps(things, count):
    """Whether something, of any kind, is the GAPS of so many stations."""
    if not isinstance(things, tuple) or len(things) != count:
        return False
    if not all([are_whole(row, count, 0, MOST_GAP) for row in things]):
        return False
    if not all([things[i][i] == 0 for i in range(count)]):
        return False
    return all([things[i][j] == things[j][i] for i in range(count) for j in range(i)])


def is_web(thing):
    """Whether something, of any kind, is a web."""
    if not isinstance(thing, tuple) or len(thing) != 4:
        return False
    names, many, gaps, lists = thing
    # NAMES and MANY come first, as the other parts are measured by them.
    if not are_names(names) or not is_whole(many, 1, MOST_TUNES):
        return False
    count = len(names)
    return are_gaps(gaps, count) and are_whole(lists, count, 0, (1 << many) - 1)


def need_web(thing):
    """BadWeb of what is no web, of any kind."""
    if not is_web(thing):
        raise BadWeb("this is no web")
