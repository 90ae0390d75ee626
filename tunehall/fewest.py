"""The fewest tunes with which a plan is good, and what shows that fewer cannot do."""

from tunehall.crowds import bound_of, need_of
from tunehall.errors import NoPlan, TooMany
from tunehall.grounds import is_form, is_ground
from tunehall.lefts import count_in, keeps_of, lefts_beside, lefts_of, tunes_in
from tunehall.reading import MOST_GAP
from tunehall.webs import are_stations, is_whole

MOST_CASES = 3000


def fewest(web):
    """(the fewest tunes, a good plan of these, what shows that one fewer can't do)."""
    need, gap, crowd = bound_of(web)
    # With one tune alone there is no number below it for which something is to be shown.
    shown = ("crowd", gap, crowd) if need > 1 else None
    for many in range(need, web[1] + 1):
        plan, ground = searched(web, many)
        if plan is not None:
            return (many, plan, shown)
        shown = ground
    raise NoPlan("no plan is good, whatever tunes it has")


def without(web):
    """What shows that all tunes can't do, None where they can."""
    need, gap, crowd = bound_of(web)
    if need > web[1]:
        return ("crowd", gap, crowd)
    return searched(web, web[1])[1]


def searched(web, many):
    """(a good plan with tunes below many, None), or (None, what shows that there is none)."""
    search = Search(web, many)
    ground = search.ground(lefts_of(web, many))
    return (tuple(search.given), None) if ground is None else (None, ground)


class Search:
    """A search for a good plan with tunes below many; given are the tunes that it tries."""

    def __init__(self, web, many):
        self.gaps = web[2]
        self.keeps = keeps_of(web, many)
        self.given = [None] * len(web[0])
        self.cases = 0

    def ground(self, lefts):
        """What shows that no plan is good with these lefts, None where all tunes of one are given."""
        if 0 in lefts:
            return ("none", lefts.index(0))
        i = least_free(lefts)
        if i is None:
            return None
        self.cases += 1
        if self.cases > MOST_CASES:
            raise TooMany("these are too many cases to go through")
        branches = []
        for tune in tunes_in(lefts[i]):
            # Never taken back: lefts tell which tunes count, and each is given anew on a new way.
            self.given[i] = tune
            shown = self.ground(lefts_beside(lefts, i, self.gaps[i], self.keeps[tune]))
            if shown is None:
                return None
            branches.append((tune, shown))
        return ("cases", i, tuple(branches))


def least_free(lefts):
    """The station without a tune that has the fewest left, of several the first; None where all have one."""
    free = [i for i, left in enumerate(lefts) if left is not None]
    return min(free, key=lambda i: count_in(lefts[i]), default=None)


def shows(web, many, shown):
    """Whether something, of any kind, shows that tunes below many can't do."""
    given = [None] * len(web[0])
    return is_ground(web, many, given, shown, lambda beside, thing: is_crowd_above(web, many, thing))


def is_crowd_above(web, many, thing):
    """Whether something, of any kind, is ("crowd", gap, STATIONS) with a crowd that needs more than many."""
    if not is_form(thing, "crowd", 3):
        return False
    _, gap, crowd = thing
    if not is_whole(gap, 1, MOST_GAP) or not are_stations(crowd, len(web[0])):
        return False
    if not all([web[2][i][j] >= gap for i in crowd for j in crowd if i != j]):
        return False
    return need_of(gap, crowd) > many
