"""The stations of a web that are needed for it to want as many tunes as it does."""

from tunehall.fewest import fewest
from tunehall.parts import web_part


def needed(web):
    """The needed stations, rising."""
    many = fewest(web)[0]
    kept = tuple(range(len(web[0])))
    for i in range(len(web[0])):
        rest = tuple([j for j in kept if j != i])
        # A last one stays: with no stations no tunes are wanted.
        if rest and fewest(web_part(web, rest))[0] == many:
            kept = rest
    return kept
