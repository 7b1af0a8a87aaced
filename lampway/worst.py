"""The longest wait in a plan of stages, with a row of asks that comes to it."""

from lampway.stages import change, ways_in


# The stages of a stage's sort, as one counts up from behind it, itself at the end.
def counted_to(stages, home):
    numbers = [(home + 1 + step) % stages.many for step in range(stages.many)]
    return [number for number in numbers if stages.sorts[number] == stages.sorts[home]]


def of_other_sort(stages, home):
    return [number for number in range(stages.many) if stages.sorts[number] != stages.sorts[home]]


# How far the count to the home stage had come as the chain's first stage was left: its own next ones lie behind that.
def place_at_first(own, first, second):
    if second in own:
        return own.index(second)
    if first in own and first != own[-1]:
        return own.index(first)
    return -1


# All ways to go on with a chain up to the home stage, which is the last one of `own`.
def grown(chain, own, others, place):
    last = chain[-1]
    if last == own[-1]:
        return [chain]
    found = []
    for step in range(place + 1, len(own)):
        found.extend(grown(chain + [own[step]], own, others, step))
    if last in own:
        for number in others:
            found.extend(grown(chain + [number], own, others, place))
    return found


def chains_to(stages, home):
    own = counted_to(stages, home)
    others = of_other_sort(stages, home)
    found = []
    for first in range(stages.many):
        for second in range(stages.many):
            if first != second:
                found.extend(grown([first, second], own, others, place_at_first(own, first, second)))
    return found


# A tram that waits lets no stage stay beyond its LEAST.
def stays_in_chain(stages, home):
    return stages.leasts if stages.sorts[home] == "trams" else stages.mosts


def length(stages, home, chain):
    stays = stays_in_chain(stages, home)
    changes = [change(stages, one, other) for one, other in zip(chain, chain[1:])]
    return sum(changes) + sum([stays[number] for number in chain[1:-1]])


# The asks of the turns from a stage's first one to the last one of the change to the next stage: its own way is asked
# until it is to be left, and only then is the next stage's, so that no other one can be picked.
def asks_of_leg(stages, number, following, turns):
    own = ways_in(stages, number)[0]
    sought = ways_in(stages, following)[0]
    asks = [[own] for turn in range(turns - 1)]
    asks.append([sought])
    asks.extend([[] for turn in range(change(stages, number, following))])
    return asks


# From stage 0 to the chain's first stage, by way of the home stage: so all of its sort are counted behind it.
def lead_in(stages, home, first):
    stops = [0]
    for number in [home, first]:
        if number != stops[-1]:
            stops.append(number)
    return stops


def asks_along(stages, name, chain):
    home = chain[-1]
    stops = lead_in(stages, home, chain[0])
    rows = []
    for number, following in zip(stops, stops[1:] + [chain[1]]):
        rows.extend(asks_of_leg(stages, number, following, stages.leasts[number]))
    turn = len(rows) - change(stages, chain[0], chain[1])
    stays = stays_in_chain(stages, home)
    for number, following in zip(chain[1:], chain[2:]):
        rows.extend(asks_of_leg(stages, number, following, stays[number]))
    rows.append([])
    rows[turn].append(name)
    return (rows, turn)


def worst(stages, name):
    stages.crossing.called(name)
    if stages.many == 1:
        return (0, [[name]], 0)
    home = stages.homes[name]
    chain = max(chains_to(stages, home), key=lambda each: length(stages, home, each))
    rows, turn = asks_along(stages, name, chain)
    return (length(stages, home, chain), rows, turn)
