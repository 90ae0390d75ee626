"""Changes: good plans beside elder ones, and what shows that fewer changes cannot do."""

from tunehall.crowds import bound_of
from tunehall.errors import BadPlan, NoPlan
from tunehall.grounds import is_form, is_free, is_ground
from tunehall.keeping import Keeping
from tunehall.plans import left_for, need_plan
from tunehall.webs import are_stations, is_whole

MOST_ELDER = 59


def need_elder(web, elder):
    """BadPlan of what is no elder plan of a web, of any kind."""
    if not isinstance(elder, tuple) or len(elder) != len(web[0]):
        raise BadPlan("this is no elder plan of this web")
    if not all([tune is None or is_whole(tune, 0, MOST_ELDER) for tune in elder]):
        raise BadPlan("these are no tunes of an elder plan")


def need_many(web, many):
    """BadPlan of what is no number of tunes of a web, of any kind."""
    if not is_whole(many, 1, web[1]):
        raise BadPlan("this is no number of tunes of this web")


def need_count(count):
    """BadPlan of what is no whole number from 0 on, of any kind."""
    if not isinstance(count, int) or isinstance(count, bool) or count < 0:
        raise BadPlan("this is no number of changes")


def changes_of(web, elder, plan):
    """How many stations had a tune and have another one in a plan."""
    need_elder(web, elder)
    need_plan(web, plan)
    return changed_among(elder, plan)


def changed_among(elder, given):
    """How many stations had a tune and are given another one."""
    pairs = [(old, tune) for old, tune in zip(elder, given) if old is not None and tune is not None]
    return sum([1 for old, tune in pairs if old != tune])


def least_changed(web, elder, many):
    """(the fewest changes, a good plan with these, what shows that fewer can't do)."""
    need_elder(web, elder)
    need_many(web, many)
    if bound_of(web)[0] > many:
        raise NoPlan("a crowd needs more tunes")
    search = Keeping(web, elder, many)
    count, shown = 0, None
    while True:
        found = search.ground_above(count)
        if found is None:
            return (count, tuple(search.given), shown)
        # Where no way was too dear, more changes are of no use either.
        if search.least is None:
            raise NoPlan("no plan is good with these tunes")
        count, shown = search.least, found


def shows_least(web, elder, many, count, shown):
    """Whether something, of any kind, shows that no good plan has fewer than count changes."""
    need_elder(web, elder)
    need_many(web, many)
    need_count(count)
    if count == 0:
        return shown is None
    given = [None] * len(web[0])
    return is_ground(web, many, given, shown, lambda beside, thing: is_dear(web, elder, many, count, beside, thing))


def is_dear(web, elder, many, count, given, thing):
    """Whether something, of any kind, is ("dear", STATIONS) of so many changes beside given tunes."""
    if not is_form(thing, "dear", 2) or not are_stations(thing[1], len(given)):
        return False
    if not all([has_lost(web, elder, many, given, i) for i in thing[1]]):
        return False
    return len(thing[1]) + changed_among(elder, given) >= count


def has_lost(web, elder, many, given, i):
    """Whether a station without a given tune had one that it hasn't left."""
    if not is_free(given, i) or elder[i] is None:
        return False
    return not left_for(web, given, i, many) >> elder[i] & 1
