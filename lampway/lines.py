"""Lines of crossings, their rounds shifted against one another: green ways, the widest ones, going through.

A line's crossings are tuples (frees forth, frees back, from first forth, from first back): for each turn of a round
whether one's way is free, and how many turns later than at the first crossing one is there, who goes without waiting.
"""

from lampway.errors import TooMany
from lampway.looks import free, next_free

MOST_TRIED = 2000


def frees(plan, name):
    return [free(plan, name, turn) for turn in range(plan.size)]


# Who goes back is at the first crossing last: so it was at the others ahead of that.
def crossings_of(line, forths, backs):
    found = []
    forth_turns = 0
    back_turns = 0
    for place, told in enumerate(line):
        plan, forth, back = told
        found.append((frees(plan, forth), frees(plan, back), forth_turns, back_turns))
        if place + 1 < len(line):
            forth_turns += forths[place]
            back_turns -= backs[place]
    return found


# Of these turns at the first crossing those with which one meets a further one's way free.
def passing(turns, marks, later):
    size = len(marks)
    return [turn for turn in turns if marks[(turn + later) % size]]


def passing_both(both, crossing, shift):
    frees_forth, frees_back, forth_turns, back_turns = crossing
    forth = passing(both[0], frees_forth, forth_turns - shift)
    back = passing(both[1], frees_back, back_turns - shift)
    return (forth, back)


def whole_round(line):
    turns = list(range(line[0][0].size))
    return (turns, turns)


def green_ways(line, forths, backs, shifts):
    both = whole_round(line)
    for crossing, shift in zip(crossings_of(line, forths, backs), shifts):
        both = passing_both(both, crossing, shift)
    return (len(both[0]), len(both[1]))


def worth(told):
    return (min(told[0], told[1]), told[0] + told[1])


# The widest of all shifts that begin as told, with the turns that pass so far.
def widest_from(crossings, shifts, both):
    if len(shifts) == len(crossings):
        return (len(both[0]), len(both[1]), shifts)
    crossing = crossings[len(shifts)]
    best = None
    for shift in range(len(crossing[0])):
        found = widest_from(crossings, shifts + [shift], passing_both(both, crossing, shift))
        if best is None or worth(found) > worth(best):
            best = found
    return best


def widest(line, forths, backs):
    size = line[0][0].size
    tried = 1
    for told in line[1:]:
        tried = tried * size
    if tried > MOST_TRIED:
        raise TooMany(f"{tried} shifts to try")
    crossings = crossings_of(line, forths, backs)
    # Shifting all by the same changes no green way: so the first shift may be 0.
    return widest_from(crossings, [0], passing_both(whole_round(line), crossings[0], 0))


def through(line, forths, shifts, turn):
    passed = []
    there = turn
    for place, told in enumerate(line):
        plan, forth, back = told
        if place > 0:
            there += forths[place - 1]
        there = next_free(plan, forth, there - shifts[place]) + shifts[place]
        passed.append(there)
    return passed
