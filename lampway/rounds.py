"""The shortest round that a crossing's wants need, with begins that do and a paper that no shorter one does."""

from lampway.papers import in_some_order, order_at_first, ring_bears, step_in_order, with_ahead
from lampway.wanted import Wanted


# Each ring begins with its least want, so that none is told twice.
def paths_longer_by_one(wanted, paths):
    found = []
    for path in paths:
        nearby = [want for want in range(path[0] + 1, wanted.many) if (path[-1], want) in wanted.steps]
        found.extend([path + (want,) for want in nearby if want not in path])
    return found


def rings_of(wanted):
    found = []
    paths = [(want,) for want in range(wanted.many)]
    while paths:
        paths = paths_longer_by_one(wanted, paths)
        found.extend([path for path in paths if (path[-1], path[0]) in wanted.steps])
    return found


def pair_without_order(wanted, order):
    for one, other in wanted.steps:
        if not in_some_order(order, one, other):
            return (one, other)
    return None


# Where no ring bears, going over all pairs once for each want pushes every begin as far as it must go.
def begins_in_order(wanted, size, order):
    begins = [0 for want in range(wanted.many)]
    for want in range(wanted.many):
        for one, other in wanted.steps:
            begins[other] = max(begins[other], begins[one] + step_in_order(wanted, size, order, one, other))
    return [begin % size for begin in begins]


# Begins and None; or None and a paper, where no begins do.
def settled(wanted, size, rings, order):
    for ring in rings:
        if ring_bears(wanted, size, order, ring):
            return (None, ("ring", ring))
    pair = pair_without_order(wanted, order)
    if pair is None:
        return (begins_in_order(wanted, size, order), None)
    one, other = pair
    begins, paper = settled(wanted, size, rings, with_ahead(order, one, other))
    if begins is not None:
        return (begins, None)
    begins, second = settled(wanted, size, rings, with_ahead(order, other, one))
    if begins is not None:
        return (begins, None)
    return (None, ("case", one, other, paper, second))


def settled_for(wanted, size, rings):
    for want, turns in enumerate(wanted.alones):
        if turns > size:
            return (None, ("alone", want))
    return settled(wanted, size, rings, order_at_first(wanted))


# Where all go one behind the other, alone each time.
def long_enough(wanted):
    total = sum(wanted.alones)
    for want in range(wanted.many):
        total += max([wanted.steps[pair] for pair in wanted.steps if pair[0] == want], default=0)
    return total


def shortest(crossing, wants):
    wanted = Wanted(crossing, wants)
    rings = rings_of(wanted)
    low = 0
    high = long_enough(wanted)
    paper = settled_for(wanted, low, rings)[1]
    begins = settled_for(wanted, high, rings)[0]
    # Begins do for each size from some one on: halving finds it soon.
    while high - low > 1:
        size = (low + high) // 2
        found, no_begins = settled_for(wanted, size, rings)
        if found is None:
            low = size
            paper = no_begins
        else:
            high = size
            begins = found
    return (high, begins, paper)
