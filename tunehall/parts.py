"""Parts: stations that hang together, their webs, and plans joined of theirs."""

from tunehall.errors import BadPlan
from tunehall.plans import need_plan
from tunehall.webs import are_stations


def parts_of(web):
    """The parts of a web, each a tuple of stations."""
    stations = range(len(web[0]))
    found = [reached(web[2], i, list(stations)) for i in stations]
    # Each part is found once for each of its stations; its first one tells it.
    return tuple([part for i, part in enumerate(found) if part[0] == i])


def reached(gaps, i, among):
    """Station i and those among others to which ways of gaps above 0 along these lead, rising."""
    found = [i]
    at = 0
    while at < len(found):
        row = gaps[found[at]]
        found.extend([j for j in among if row[j] > 0 and j not in found])
        at += 1
    return tuple(sorted(found))


def web_part(web, stations):
    """The web of some stations alone."""
    names, many, gaps, lists = web
    if not are_stations(stations, len(names)) or len(stations) == 0:
        raise BadPlan("these are no stations of this web")
    rows = [tuple([gaps[i][j] for j in stations]) for i in stations]
    return (tuple([names[i] for i in stations]), many, tuple(rows), tuple([lists[i] for i in stations]))


def joined_plan(web, plans):
    """The plan of the whole web, joined of one for each part."""
    parts = parts_of(web)
    if not isinstance(plans, list) or len(plans) != len(parts):
        raise BadPlan("this is no list of a plan for each part")
    joined = [0] * len(web[0])
    for part, plan in zip(parts, plans):
        need_plan(web_part(web, part), plan)
        for i, tune in zip(part, plan):
            joined[i] = tune
    return tuple(joined)
