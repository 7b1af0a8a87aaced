"""Queues in a plan of a round: how many stand, by how many they grow, who waits longest."""

from lampway.looks import free


def coming_by(comings):
    kept = list(comings)
    return lambda turn: kept[turn % len(kept)]


# How many stand behind so many turns of a round, where so many stood as it began.
def standing_after(plan, name, comings, standing, turns):
    way = plan.crossing.called(name)
    coming = coming_by(comings)
    for turn in range(turns):
        standing += coming(turn)
        if free(plan, name, turn):
            standing -= way.goes(standing)
    return standing


def grows(plan, name, comings):
    first = standing_after(plan, name, comings, 0, plan.size)
    return standing_after(plan, name, comings, first, plan.size) - first


def queue(plan, name, comings, turn):
    rounds, rest = divmod(turn, plan.size)
    if rounds == 0:
        return standing_after(plan, name, comings, 0, rest)
    # Behind the first round it grows by the same number each time: so no round has to be gone through but this one.
    first = standing_after(plan, name, comings, 0, plan.size)
    standing = first + (rounds - 1) * grows(plan, name, comings)
    return standing_after(plan, name, comings, standing, rest)


# How many turns go by until the last one of so many has gone.
def wait_of_last(plan, name, standing, turn):
    way = plan.crossing.called(name)
    later = turn
    while True:
        if free(plan, name, later):
            standing -= way.goes(standing)
        if standing == 0:
            return later - turn
        later += 1


def slowest(plan, name, comings):
    if grows(plan, name, comings) > 0:
        return None
    coming = coming_by(comings)
    waits = []
    # From the second round on the queue is the same in each one, and in the first one no longer.
    standing = queue(plan, name, comings, plan.size)
    for turn in range(plan.size, 2 * plan.size):
        standing += coming(turn)
        if coming(turn) > 0:
            waits.append((wait_of_last(plan, name, standing, turn), turn))
        if free(plan, name, turn):
            standing -= plan.crossing.called(name).goes(standing)
    return max(waits, default=None)
