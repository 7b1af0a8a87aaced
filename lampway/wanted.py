"""Wants for a round, reckoned out: whose ways meet, and how many turns they need."""

from lampway.meets import gap, meet


class Wanted:
    def __init__(self, crossing, wants):
        ways = [crossing.called(name) for name, turns in wants]
        self.many = len(wants)
        self.alones = [want[1] + way.fade() + way.ready() for want, way in zip(wants, ways)]
        # Of each two wants whose ways meet, and of no others: the turns from one's begin to the other's, at least.
        self.steps = {}
        for one, want in enumerate(wants):
            for other, second in enumerate(wants):
                if one != other and meet(crossing, want[0], second[0]):
                    self.steps[(one, other)] = want[1] + gap(crossing, want[0], second[0])
