"""Swaps: two tunes changed for one another along a chain; plans lowered tune by tune."""

from tunehall.errors import BadPlan
from tunehall.parts import reached
from tunehall.plans import fault_of, left_for
from tunehall.webs import is_whole


def chain_of(web, plan, i, tune):
    """The chain of station i and a tune."""
    need_swap(web, plan, i, tune)
    return chain_along(web, plan, i, tune)


def chain_along(web, plan, i, tune):
    """The chain of station i and a tune in what is a good plan."""
    if plan[i] == tune:
        return ()
    among = [j for j in range(len(plan)) if plan[j] in (plan[i], tune)]
    return reached(web[2], i, among)


def swapped(web, plan, i, tune):
    """The plan in which the chain's two tunes are swapped, None where it isn't good."""
    need_swap(web, plan, i, tune)
    turned = list(plan)
    for j in chain_along(web, plan, i, tune):
        turned[j] = tune if plan[j] == plan[i] else plan[i]
    found = tuple(turned)
    return found if fault_of(web, found) is None else None


def lowered(web, plan):
    """The plan in which, again and again, the first station that can gets its least tune."""
    need_good(web, plan)
    given = list(plan)
    i = 0
    while i < len(given):
        tune = given[i]
        given[i] = None
        left = left_for(web, given, i, tune)
        given[i] = tune if left == 0 else least_of(left)
        # What one lets go may let an earlier one be lowered again.
        i = i + 1 if left == 0 else 0
    return tuple(given)


def least_of(bits):
    """The least tune whose bit is 1."""
    return (bits & -bits).bit_length() - 1


def need_good(web, plan):
    """BadPlan of what is no good plan, of any kind."""
    if fault_of(web, plan) is not None:
        raise BadPlan("this plan isn't good")


def need_swap(web, plan, i, tune):
    """BadPlan of what is no good plan, then no station, then no tune, of any kind."""
    need_good(web, plan)
    if not is_whole(i, 0, len(plan) - 1):
        raise BadPlan("this is no station")
    if not is_whole(tune, 0, web[1] - 1):
        raise BadPlan("this is no tune")
