"""Crowds: stations of which each two are near, and how many tunes they need.

Sets of stations are whole numbers here, whose bit i is 1 for station i.
"""

from tunehall.reading import MOST_GAP


def crowd_of(web, gap):
    """The greatest crowd of a gap, of several the least tuple."""
    near = [near_bits(web[2], i, gap) for i in range(len(web[0]))]
    left = (1 << len(near)) - 1
    known = {}
    most = most_among(near, left, known)
    crowd = []
    # The first station of any greatest crowd begins the least tuple. One that is
    # passed over is in none of the greatest ones, so that it may stay in left.
    for i in range(len(near)):
        if left >> i & 1 and 1 + most_among(near, left & near[i], known) == most:
            crowd.append(i)
            left &= near[i]
            most -= 1
    return tuple(crowd)


def near_bits(gaps, i, gap):
    """The other stations with which station i has that gap or more."""
    return sum([1 << j for j in range(len(gaps)) if j != i and gaps[i][j] >= gap])


def most_among(near, left, known):
    """How many stations the greatest crowd of those left has; known keeps what is found."""
    if left == 0:
        return 0
    # The first one is parted off each time, so that few unlike sets are met: of
    # twenty-four stations 2 ** 12 at most in either half, whatever their gaps are.
    if left not in known:
        first = (left & -left).bit_length() - 1
        with_it = 1 + most_among(near, left & near[first], known)
        known[left] = max(with_it, most_among(near, left & (left - 1), known))
    return known[left]


def need_of(gap, crowd):
    """How many tunes a crowd of a gap needs."""
    return (len(crowd) - 1) * gap + 1


def bound_of(web):
    """(need, gap, crowd) of the greatest crowd that needs most, of several the least gap."""
    crowds = [(gap, crowd_of(web, gap)) for gap in range(1, MOST_GAP + 1)]
    bounds = [(need_of(gap, crowd), gap, crowd) for gap, crowd in crowds]
    # Of several greatest ones max tells the first.
    return max(bounds, key=lambda bound: bound[0])
