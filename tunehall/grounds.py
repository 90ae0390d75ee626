"""Grounds: what shows that no plan is good, looked over part by part.

A ground branches by ("cases", ..) and ends with ("none", i), or with an end of a
sort of its own; which ends these are, whoever asks tells.
"""

from tunehall.lefts import tunes_in
from tunehall.plans import left_for
from tunehall.webs import is_whole


def is_form(thing, word, count):
    """Whether something, of any kind, is a tuple of so many things, the first of them this word."""
    if not isinstance(thing, tuple) or len(thing) != count:
        return False
    return isinstance(thing[0], str) and thing[0] == word


def is_free(given, thing):
    """Whether something, of any kind, is a station to which no tune is given."""
    return is_whole(thing, 0, len(given) - 1) and given[thing] is None


def is_ground(web, many, given, thing, ends):
    """Whether something, of any kind, shows that beside given tunes those below many can't do.

    ends(given, thing) tells it of all that is neither "none" nor "cases".
    """
    if is_form(thing, "none", 2):
        return is_free(given, thing[1]) and left_for(web, given, thing[1], many) == 0
    if not is_form(thing, "cases", 3):
        return ends(given, thing)
    _, i, branches = thing
    if not is_free(given, i):
        return False
    tunes = tunes_in(left_for(web, given, i, many))
    if not tunes or not are_branches(branches, tunes):
        return False
    return all([is_ground(web, many, [*given[:i], tune, *given[i + 1:]], shown, ends) for tune, shown in branches])


def are_branches(things, tunes):
    """Whether something, of any kind, is a tuple of pairs, the first of each these tunes in order."""
    if not isinstance(things, tuple) or len(things) != len(tunes):
        return False
    return all([is_branch(thing, tune) for thing, tune in zip(things, tunes)])


def is_branch(thing, tune):
    """Whether something, of any kind, is a pair of this tune and whatever else."""
    return isinstance(thing, tuple) and len(thing) == 2 and is_whole(thing[0], tune, tune)
