"""A keeper of a plan of stages: it goes turn by turn, by what is asked."""

from lampway.stages import change


class Keeper:
    def __init__(self, stages):
        self.stages = stages
        self.showing = 0
        # The n of the n-th turn in a row in which the stage is shown.
        self.lasted = 1
        self.left = 0
        self.sought = 0
        self.gone = 0
        self.waiting = {}
        # The stage of each sort that was picked last; -1 where none was, so that one counts up from 0.
        self.picked = {"trams": -1, "others": -1}
        self.picked[stages.sorts[0]] = 0

    def stage(self):
        return self.showing

    def waits(self):
        return [name for name in self.stages.crossing.names() if name in self.waiting]

    def shown(self):
        colours = {}
        for name in self.stages.crossing.names():
            colours[name] = self.stage_colour(name) if self.showing is not None else self.change_colour(name)
        return colours

    def stage_colour(self, name):
        return "free" if self.stages.homes[name] == self.showing else "stop"

    def change_colour(self, name):
        way = self.stages.crossing.called(name)
        home = self.stages.homes[name]
        if home == self.left and self.gone < way.fade():
            return "fade"
        if home == self.sought and change(self.stages, self.left, self.sought) - self.gone <= way.ready():
            return "ready"
        return "stop"

    def pass_turn(self, asks):
        # All names are looked at first, so that a refused turn changes nothing.
        for name in asks:
            self.stages.crossing.called(name)
        colours = self.shown()
        own_asked = False
        for name in asks:
            if colours[name] == "free":
                own_asked = True
            else:
                self.waiting[name] = True
        self.settle(own_asked)
        return colours

    def settle(self, own_asked):
        if self.showing is None:
            self.gone += 1
            self.show_sought()
        elif self.stays(own_asked):
            self.lasted += 1
        else:
            self.leave_for(self.pick())

    def stays(self, own_asked):
        if not self.waiting or self.lasted < self.stages.leasts[self.showing]:
            return True
        return self.lasted < self.stages.mosts[self.showing] and own_asked and not self.tram_waits()

    def tram_waits(self):
        return any([self.stages.sorts[self.stages.homes[name]] == "trams" for name in self.waiting])

    def pick(self):
        waited = [self.stages.homes[name] for name in self.waiting]
        same = self.stages.sorts[self.showing]
        others = [number for number in waited if self.stages.sorts[number] != same]
        choices = others if others else waited
        last = self.picked[self.stages.sorts[choices[0]]]
        many = self.stages.many
        # Counted up from behind the last one, which comes at the end itself.
        return min(choices, key=lambda number: (number - last - 1) % many)

    def leave_for(self, number):
        self.picked[self.stages.sorts[number]] = number
        self.left = self.showing
        self.sought = number
        self.gone = 0
        self.showing = None
        self.show_sought()

    # A change of no turns is at its end as it begins.
    def show_sought(self):
        if self.gone < change(self.stages, self.left, self.sought):
            return
        self.showing = self.sought
        self.lasted = 1
        for name in self.stages.members[self.sought]:
            self.waiting.pop(name, None)
