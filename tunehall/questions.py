"""What a desk answers to questions: lines that change nothing.

Each question is asked of a web, a plan (None where there is none), and the numbers of its line.
"""

from tunehall.crowds import crowd_of
from tunehall.errors import NoPlan
from tunehall.fewest import fewest, without
from tunehall.needed import needed
from tunehall.parts import parts_of
from tunehall.plans import fault_of


def side_by_side(tunes):
    """Tunes as a text."""
    return " ".join([str(tune) for tune in tunes])


def names_of_some(web, stations):
    """The names of some stations as a text."""
    return " ".join([web[0][i] for i in stations])


def look(web, plan, numbers):
    """Whether the plan is good, or what fails first."""
    if plan is None:
        return "no plan"
    fault = fault_of(web, plan)
    if fault is None:
        return "good"
    return f"{fault[0]} {names_of_some(web, fault[1:])}"


def state(web, plan, numbers):
    """The plan's tunes."""
    return "no plan" if plan is None else side_by_side(plan)


def greatest_crowd(web, plan, numbers):
    """The greatest crowd of a gap."""
    return names_of_some(web, crowd_of(web, numbers[0]))


def needed_stations(web, plan, numbers):
    """The needed stations."""
    return names_of_some(web, needed(web))


def all_parts(web, plan, numbers):
    """The parts."""
    return " | ".join([names_of_some(web, part) for part in parts_of(web)])


def why(web, plan, numbers):
    """What shows that one tune fewer than the fewest, or that all of them can't do."""
    try:
        shown = fewest(web)[2]
    except NoPlan:
        return f"all: {ground_told(web, without(web))}"
    return "nothing" if shown is None else ground_told(web, shown)


def ground_told(web, shown):
    """What shows that tunes can't do, in some words."""
    if shown[0] == "crowd":
        return f"crowd {shown[1]}: {names_of_some(web, shown[2])}"
    if shown[0] == "none":
        return f"none: {web[0][shown[1]]}"
    return f"{cases_in(shown)} cases"


def cases_in(shown):
    """How many cases there are in what shows that tunes can't do."""
    if shown[0] != "cases":
        return 0
    return 1 + sum([cases_in(further) for _, further in shown[2]])


QUESTIONS = {
    "look": look,
    "state": state,
    "crowd": greatest_crowd,
    "needed": needed_stations,
    "parts": all_parts,
    "why": why,
}
