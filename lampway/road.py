"""A road: a keeper with queues, where those who stand ask by standing there."""

from lampway.keeper import Keeper


class Road:
    def __init__(self, stages):
        self.crossing = stages.crossing
        self.keeper = Keeper(stages)
        self.turn = 0
        self.standing = {}
        # Of each way those who stand there, the first ones first: tuples of a turn and how many of it are left.
        self.lots = {}
        for name in self.crossing.names():
            self.standing[name] = 0
            self.lots[name] = []

    def shown(self):
        return self.keeper.shown()

    def queues(self):
        return dict(self.standing)

    def pass_turn(self, comings):
        # All names are looked at first, so that a refused turn changes nothing.
        for name in comings:
            self.crossing.called(name)
        for name in comings:
            self.come(name, comings[name])
        colours = self.keeper.pass_turn([name for name in self.crossing.names() if self.standing[name] > 0])
        went = []
        for name in self.crossing.names():
            if colours[name] == "free":
                went.extend(self.let_go(name))
        self.turn += 1
        return went

    def come(self, name, many):
        if many > 0:
            self.lots[name].append((self.turn, many))
            self.standing[name] += many

    def let_go(self, name):
        left = self.crossing.called(name).goes(self.standing[name])
        self.standing[name] -= left
        lots = self.lots[name]
        went = []
        while left > 0:
            came, many = lots[0]
            some = min(many, left)
            went.append((name, came, some))
            if some == many:
                lots.pop(0)
            else:
                lots[0] = (came, many - some)
            left -= some
        return went
