"""Webs made for tests, things of all kinds, and how a refusal is looked at."""

import copy
import itertools

from tunehall import errors
from tunehall.errors import TuneError

REFUSALS = (errors.BadText, errors.Lacking, errors.Twice, errors.BadNumber, errors.TooMany, errors.BadWeb,
            errors.BadPlan, errors.BadShown, errors.NoPlan, errors.BadLine)


class Odd:
    """A thing that can't be shown, compared, hashed or measured."""

    __hash__ = None

    def refuse(self, *_):
        raise RuntimeError("not to be asked")

    __repr__ = __eq__ = __ne__ = __lt__ = __le__ = __gt__ = __ge__ = __len__ = __bool__ = __iter__ = refuse
    __getitem__ = __contains__ = __index__ = __int__ = refuse


def deep(kind, times=48):
    """Something within so many lists or tuples."""
    thing = kind(())
    for _ in range(times):
        thing = kind((thing,))
    return thing


THINGS = (
    None, True, False, 0, 1, -1, 10 ** 900, -10 ** 900, 1.5, "", "none", "crowd", "cases", "dear", b"", b"none", (),
    [], {}, set(), frozenset((1,)), range(3), object(), Odd(), Odd, tuple, len, TuneError("x"), bytearray(b"a"),
    {"a": 1}, {0: 0}, [0], [[0]], ((),), (None,), (None,) * 2, (None,) * 3, iter(()), NotImplemented, ...,
    deep(list), deep(tuple))


def web_of_gaps(many, told, count, lists=None):
    """A web of so many stations; told(i, j) is the gap of i and j, i the lesser one."""
    rows = [[0] * count for _ in range(count)]
    for i, j in itertools.combinations(range(count), 2):
        rows[i][j] = rows[j][i] = told(i, j)
    names = tuple(f"s{i}" for i in range(count))
    return (names, many, tuple(map(tuple, rows)), tuple(lists or (2 ** many - 1,) * count))


def web_made(many, gaps, count, lists=None):
    """A web of stations with these gaps of pairs (i, j); all tunes where no lists are told."""
    return web_of_gaps(many, lambda i, j: gaps.get((i, j), 0), count, lists)


def ring(many, gap, count=5, lists=None):
    """A web of stations in a ring, each near to two."""
    return web_of_gaps(many, lambda i, j: gap if j - i in (1, count - 1) else 0, count, lists)


def all_near(many, gap, count, lists=None):
    return web_of_gaps(many, lambda i, j: gap, count, lists)


def random_web(chance, count, many):
    """Some web; chance tells its gaps and lists: of all tunes, of some, seldom of one or none."""
    dense, gaps = chance.random(), chance.choice(((1,), (1, 2), (1, 2, 3, 4, 5), (3, 4, 5)))
    lists = None
    if chance.random() < 0.6:
        lists = [
            chance.choice((2 ** many - 1, chance.randrange(2 ** many), 1 << chance.randrange(many)))
            for _ in range(count)]
        if chance.random() < 0.1:
            lists[chance.randrange(count)] = 0
    return web_of_gaps(many, lambda i, j: chance.choice(gaps) if chance.random() < dense else 0, count, lists)


def is_good(web, plan):
    """What point 40 calls good, by its words."""
    _, _, gaps, lists = web
    pairs = itertools.combinations(range(len(plan)), 2)
    return (all(lists[i] >> tune & 1 for i, tune in enumerate(plan))
            and all(abs(plan[i] - plan[j]) >= gaps[i][j] for i, j in pairs))


def good_plans(web, many):
    """All good plans with tunes below many, gone through one by one."""
    for plan in itertools.product(range(many), repeat=len(web[0])):
        if is_good(web, plan):
            yield plan


def tunes_left(web, given, i, many):
    """What point 41 tells, by its words, as a rising list of tunes."""
    _, most, gaps, lists = web
    return [
        tune for tune in range(min(many, most))
        if lists[i] >> tune & 1
        and all(other is None or j == i or abs(other - tune) >= gaps[i][j] for j, other in enumerate(given))]


def with_other(row, at, thing):
    """A tuple with another thing at one place."""
    return row[:at] + (thing,) + row[at + 1:]


def is_number(thing):
    return isinstance(thing, int) and not isinstance(thing, bool)


def places(thing, at=()):
    """The places of all things within something."""
    yield at
    if isinstance(thing, tuple):
        for k, part in enumerate(thing):
            yield from places(part, at + (k,))


def put(thing, at, other):
    """The thing with an other thing at one place."""
    if not at:
        return other
    return with_other(thing, at[0], put(thing[at[0]], at[1:], other))


def part_at(thing, at):
    for k in at:
        thing = thing[k]
    return thing


def near_to(part):
    """Things that are just a little otherwise than a part."""
    if isinstance(part, tuple):
        yield list(part)
        yield part + part[-1:]
        yield part + (0,)
        yield part[:-1]
        yield part[1:]
        yield part[::-1]
        yield ()
        yield (part,)
        for k in range(len(part) - 1):
            yield part[:k] + (part[k + 1], part[k]) + part[k + 2:]
            yield part[:k] + part[k + 1:]
            yield part[:k] + part[k:k + 1] + part[k:]
    elif isinstance(part, str):
        yield from ("none", "crowd", "cases", "dear", "", part.upper(), part + " ", part[:-1], part.encode())
    else:
        yield from (part - 1, part + 1, -part - 1, part + 100, bool(part), float(part % 1000), str(part), (part,), None)


class Looking:
    """Beside unittest.TestCase: how what is told and what is refused is looked at."""

    def told(self, asked, *handed):
        """What is told, twice the same, nothing that was handed in changed."""
        before = copy.deepcopy(handed)
        first = asked(*handed)
        self.assertEqual(handed, before)
        self.assertEqual(asked(*handed), first)
        self.own_kinds(first)
        return first

    def own_kinds(self, thing):
        self.assertIn(thing.__class__, (tuple, list, int, str, bool, None.__class__))
        if thing.__class__ in (tuple, list):
            for part in thing:
                self.own_kinds(part)

    def refused(self, kind, asked, *handed):
        """Refused so, a TuneError and a ValueError and none of the others."""
        with self.assertRaises(ValueError) as caught:
            asked(*handed)
        self.assertIs(caught.exception.__class__, kind)
        self.assertIsInstance(caught.exception, TuneError)
        self.assertNotIsInstance(caught.exception, tuple(other for other in REFUSALS if other is not kind))
