"""What a desk does by orders: lines that change its web or its plan.

Each order tells (web, plan, answer) as they are behind it, or None where it isn't good.
"""

from tunehall.changes import least_changed
from tunehall.fewest import fewest
from tunehall.plans import need_plan
from tunehall.questions import side_by_side
from tunehall.swaps import lowered, swapped


def this_plan(web, plan, numbers):
    """The plan is this one, good or not; BadPlan of what is none."""
    wanted = tuple(numbers)
    need_plan(web, wanted)
    return (web, wanted, "done")


def fewest_tunes(web, plan, numbers):
    """The plan is one with the fewest tunes."""
    many, found, _ = fewest(web)
    return (web, found, f"{many}: {side_by_side(found)}")


def lower(web, plan, numbers):
    """The plan is lowered."""
    found = lowered(web, plan)
    return (web, found, side_by_side(found))


def swap(web, plan, numbers):
    """The plan is swapped at a station with a tune."""
    i, tune = numbers
    found = swapped(web, plan, i, tune)
    return None if found is None else (web, found, side_by_side(found))


def least(web, plan, numbers):
    """The plan is one with the fewest changes that has tunes below a number."""
    count, found, _ = least_changed(web, plan, numbers[0])
    return (web, found, f"{count}: {side_by_side(found)}")


def bar(web, plan, numbers):
    """A station may not have a tune."""
    i, tune = numbers
    return (with_list(web, i, web[3][i] & ~(1 << tune)), plan, "done")


def fix(web, plan, numbers):
    """A station may have no other tune."""
    i, tune = numbers
    return (with_list(web, i, web[3][i] & 1 << tune), plan, "done")


def with_list(web, i, bits):
    """The web with another list of station i."""
    names, many, gaps, lists = web
    return (names, many, gaps, (*lists[:i], bits, *lists[i + 1:]))


ORDERS = {
    "plan": this_plan,
    "fewest": fewest_tunes,
    "lower": lower,
    "swap": swap,
    "least": least,
    "bar": bar,
    "fix": fix,
}
