"""Plans: whether one is good, and what a station has left beside given tunes."""

from tunehall.errors import BadPlan
from tunehall.webs import are_whole


def need_plan(web, plan):
    """BadPlan of what is no plan of a web, of any kind."""
    if not are_whole(plan, len(web[0]), 0, web[1] - 1):
        raise BadPlan("this is no plan of this web")


def fault_of(web, plan):
    """What fails first in a plan, None where it is good."""
    need_plan(web, plan)
    for i in range(len(plan)):
        fault = fault_at(web, plan, i)
        if fault is not None:
            return fault
    return None


def fault_at(web, plan, i):
    """What fails first at station i, beside those ahead of it alone."""
    gaps, lists = web[2:]
    if not lists[i] >> plan[i] & 1:
        return ("list", i)
    for j in range(i):
        if abs(plan[i] - plan[j]) < gaps[i][j]:
            return ("near", j, i)
    return None


def left_for(web, given, i, many):
    """The tunes below many that station i has left beside given ones, as bits."""
    gaps, lists = web[2:]
    left = lists[i] & ((1 << max(0, many)) - 1)
    for tune, gap in zip(given, gaps[i]):
        if tune is not None:
            left &= ~tunes_near(tune, gap)
    return left


def tunes_near(tune, gap):
    """The tunes that differ from one by less than a gap, as bits."""
    if gap < 1:
        return 0
    # These are the gap - 1 tunes at either side of the tune, and itself.
    around = (1 << (2 * gap - 1)) - 1
    least = tune - (gap - 1)
    return around << least if least >= 0 else around >> -least
