"""A second telling of points 17 to 19, apart from the program: a state goes turn by turn by what is asked.

A state is (stage or None, n, left, sought, gone, waiting, last of trams, last of others), all that hangs on the asks.
"""

from lampway.meets import gap, meet


class Model:
    def __init__(self, crossing, text):
        rows = [row.split(" ") for row in text.split("\n")]
        self.names = crossing.names()
        self.ways = {name: crossing.called(name) for name in self.names}
        self.members = [tuple(row[3:]) for row in rows]
        self.leasts = [int(row[1]) for row in rows]
        self.mosts = [int(row[2]) for row in rows]
        self.many = len(rows)
        self.home = {name: number for number, row in enumerate(rows) for name in row[3:]}
        self.trams = [self.ways[row[3]].kind == "tram" for row in rows]
        self.changes = {(one, other): self.change(crossing, one, other)
                        for one in range(self.many) for other in range(self.many) if one != other}
        picked = [None, None]
        picked[self.trams[0]] = 0
        self.first = (0, 1, None, None, None, frozenset(), picked[1], picked[0])

    def change(self, crossing, one, other):
        second = self.members[other]
        turns = [0] + [self.ways[name].fade() for name in self.members[one]]
        turns += [self.ways[name].ready() for name in second]
        turns += [gap(crossing, name, to) for name in self.names if name not in second for to in second
                  if meet(crossing, name, to)]
        return max(turns)

    def colours(self, state):
        stage, n, left, sought, gone = state[:5]
        told = {name: "stop" for name in self.names}
        if stage is not None:
            told.update({name: "free" for name in self.members[stage]})
            return told
        whole = self.changes[(left, sought)]
        told.update({name: "fade" for name in self.members[left] if gone < self.ways[name].fade()})
        told.update({name: "ready" for name in self.members[sought] if gone >= whole - self.ways[name].ready()})
        return told

    def step(self, state, asks):
        stage, n, left, sought, gone, waiting, last_tram, last_other = state
        if stage is None:
            waiting = waiting | set(asks)
            if gone + 1 < self.changes[(left, sought)]:
                return (None, None, left, sought, gone + 1, waiting, last_tram, last_other)
            return (sought, 1, None, None, None, waiting - set(self.members[sought]), last_tram, last_other)
        own = [name for name in asks if self.home[name] == stage]
        waiting = waiting | set(asks) - set(own)
        tram_waits = any([self.ways[name].kind == "tram" for name in waiting])
        stays = not waiting or n < self.leasts[stage] or (n < self.mosts[stage] and own and not tram_waits)
        if stays:
            # Beyond its MOST all turns of a stage are alike.
            return (stage, min(n + 1, self.mosts[stage]), None, None, None, waiting, last_tram, last_other)
        to = self.pick(stage, waiting, last_tram, last_other)
        if self.trams[to]:
            last_tram = to
        else:
            last_other = to
        if self.changes[(stage, to)] == 0:
            return (to, 1, None, None, None, waiting - set(self.members[to]), last_tram, last_other)
        return (None, None, stage, to, 0, waiting, last_tram, last_other)

    def pick(self, stage, waiting, last_tram, last_other):
        waited = [any([name in waiting for name in names]) for names in self.members]
        other_sort = [number for number in range(self.many) if waited[number] and self.trams[number] != self.trams[stage]]
        sort = (not self.trams[stage]) if other_sort else self.trams[stage]
        last = last_tram if sort else last_other
        number = 0 if last is None else (last + 1) % self.many
        while not (waited[number] and self.trams[number] == sort):
            number = (number + 1) % self.many
        return number


def reachable(model):
    """All states that some row of asks comes to, each with those that may follow it."""
    subsets = [[]]
    for name in model.names:
        subsets += [each + [name] for each in subsets]
    follow, left = {}, [model.first]
    while left:
        state = left.pop()
        if state not in follow:
            follow[state] = {tuple(asks): model.step(state, asks) for asks in subsets}
            left.extend(follow[state].values())
    return follow


def greatest_wait(model, follow, name):
    """The greatest number of turns from an ask to the first free turn, gone through all states."""
    home, known = model.home[name], {}

    def wait(state):
        if state[0] == home:
            return 0
        if state not in known:
            known[state] = 1 + max([wait(later) for asks, later in follow[state].items() if name in asks])
        return known[state]
    return max([wait(state) for state in follow])
