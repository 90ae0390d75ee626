"""Lines: fields whose stations stand side by side are swept from one end to the other."""

from tunehall.errors import BadWeb, NoPlan


def swept(field):
    """(a plan with the fewest tunes, a crowd that shows that fewer can't do) of a line's field."""
    if not is_line(field):
        raise BadWeb("this is no field of a line")
    far, gap = field[1][0]
    steps, crowd = steps_of([station[1] for station in field[2]], far)
    plan = tuple([step * gap for step in steps])
    if max(plan) >= field[0]:
        raise NoPlan("these are too few tunes")
    return (plan, crowd)


def is_line(field):
    """Whether a field is a line's."""
    _, rules, stations, pairs, fixed, barred = field
    if len(rules) != 1 or pairs or fixed or barred:
        return False
    return all([station[2] == stations[0][2] for station in stations])


def steps_of(places, far):
    """(the step of each place, the crowd of the first place that gets the greatest step)."""
    steps = [0] * len(places)
    crowd = ()
    order = sorted([(x, i) for i, x in enumerate(places)])
    for at, (x, i) in enumerate(order):
        near = [j for other, j in order[:at] if x - other <= far]
        taken = [steps[j] for j in near]
        steps[i] = min([step for step in range(len(near) + 1) if step not in taken])
        # The near ones of the first that gets a step have all lesser steps, so the
        # crowd so far is as large as the greatest step so far and one more.
        if steps[i] == len(crowd):
            crowd = tuple(sorted([*near, i]))
    return (steps, crowd)
