"""What all stations have left, carried on from one given tune to the next.

Searches give tunes thousands of times. So lefts are a list here: for each station
its tunes left as bits, None where it is given one.
"""

from tunehall.plans import left_for, tunes_near


def lefts_of(web, many):
    """What each station has left below many where no tune is given."""
    given = [None] * len(web[0])
    return [left_for(web, given, i, many) for i in range(len(given))]


def keeps_of(web, many):
    """For each tune below many what it leaves at each gap of the web, as bits."""
    full = (1 << many) - 1
    gaps = sorted({gap for row in web[2] for gap in row})
    return [{gap: full & ~tunes_near(tune, gap) for gap in gaps} for tune in range(many)]


def lefts_beside(lefts, i, gaps, keeps):
    """The lefts once station i is given a tune: gaps are i's row, keeps the tune's."""
    beside = [None if left is None else left & keeps[gap] for left, gap in zip(lefts, gaps)]
    beside[i] = None
    return beside


def tunes_in(bits):
    """The tunes whose bits are 1, rising."""
    return [tune for tune in range(bits.bit_length()) if bits >> tune & 1]


def count_in(bits):
    """How many bits are 1."""
    figures = f"{bits:b}"
    return figures.count("1")
