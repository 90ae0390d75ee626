"""The search for a good plan in which as many stations as can be keep the tunes that they had.

Sets of stations are whole numbers here, whose bit i is 1 for station i.
"""

from tunehall.errors import TooMany
from tunehall.lefts import count_in, keeps_of, lefts_beside, lefts_of, tunes_in
from tunehall.plans import tunes_near

# Of six stations with six tunes each of seven searches looks at 123162 at most,
# of two with sixty each of three at 7380, so that these never come to it.
MOST_LOOKS = 1000000


class Keeping:
    """Searches for a good plan with tunes below many beside an elder one; given are the tunes that they try."""

    def __init__(self, web, elder, many):
        self.gaps = web[2]
        self.elder = elder
        self.first = lefts_of(web, many)
        self.keeps = keeps_of(web, many)
        self.losses = [losses_of(row, i, elder, many) for i, row in enumerate(web[2])]
        self.had = len([tune for tune in elder if tune is not None])
        self.given = [None] * len(elder)
        self.most = 0
        self.least = None
        self.looks = 0

    def ground_above(self, most):
        """What shows that no good plan has so few changes, None where all tunes of one are given.

        least is then the number of changes of which it shows that none has fewer, None of any number.
        """
        self.most = most
        self.least = None
        kept = [i for i, tune in enumerate(self.elder) if tune is not None and self.first[i] >> tune & 1]
        return self.ground(self.first, sum([1 << i for i in kept]))

    def ground(self, lefts, kept):
        """The ground with these lefts; kept are the stations that have their old tunes, or may yet have them."""
        if 0 in lefts:
            return ("none", lefts.index(0))
        changes = self.had - count_in(kept)
        if changes > self.most:
            self.least = changes if self.least is None else min(changes, self.least)
            return ("dear", self.lost_among(lefts, kept))
        i = self.next_station(lefts, kept)
        if i is None:
            return None
        branches = []
        for tune in self.tried_tunes(lefts, kept, i):
            # Never taken back: lefts tell which tunes count, and each is given anew on a new way.
            self.given[i] = tune
            beside = lefts_beside(lefts, i, self.gaps[i], self.keeps[tune])
            shown = self.ground(beside, kept & ~self.losses[i][tune])
            if shown is None:
                return None
            branches.append((tune, shown))
        return ("cases", i, tuple(sorted(branches, key=lambda branch: branch[0])))

    def lost_among(self, lefts, kept):
        """The stations without a tune that had one and haven't it left."""
        free = [i for i, left in enumerate(lefts) if left is not None]
        return tuple([i for i in free if self.elder[i] is not None and not kept >> i & 1])

    def next_station(self, lefts, kept):
        """The station without a tune of whose tunes the fewest aren't too dear at once, of several the first."""
        found, fewest_cheap = None, None
        for i, left in enumerate(lefts):
            if left is not None:
                cheap = len([cost for cost in self.costs_of(left, kept, i) if cost <= self.most])
                if found is None or cheap < fewest_cheap:
                    found, fewest_cheap = i, cheap
        return found

    def costs_of(self, left, kept, i):
        """For each tune that station i has left, how many changes there are with it."""
        tunes = tunes_in(left)
        self.looks += len(tunes)
        if self.looks > MOST_LOOKS:
            raise TooMany("the fewest changes would be looked for too long")
        return [self.had - count_in(kept & ~self.losses[i][tune]) for tune in tunes]

    def tried_tunes(self, lefts, kept, i):
        """The tunes that station i has left, those with the fewest changes first."""
        costs = self.costs_of(lefts[i], kept, i)
        return [tune for _, tune in sorted(zip(costs, tunes_in(lefts[i])))]


def losses_of(gaps, i, elder, many):
    """For each tune below many the stations that lose their old one where station i is given it; gaps are i's row."""
    losses = [0 if elder[i] in (None, tune) else 1 << i for tune in range(many)]
    for j, old in enumerate(elder):
        if old is not None:
            near = tunes_near(old, gaps[j])
            for tune in range(many):
                losses[tune] |= (near >> tune & 1) << j
    return losses
