"""What a plan of a round shows: turn by turn, the next free turn, the longest wait."""


def colour(plan, name, turn):
    plan.crossing.called(name)
    return plan.lamps[name][turn % plan.size]


def free(plan, name, turn):
    return colour(plan, name, turn) == "free"


def colours(plan, turn):
    shown = {}
    for name in plan.crossing.names():
        shown[name] = colour(plan, name, turn)
    return shown


def next_free(plan, name, turn):
    plan.crossing.called(name)
    return turn + plan.untils[name][turn % plan.size]


def longest(plan, name):
    plan.crossing.called(name)
    wait = max(plan.untils[name])
    return (wait, plan.untils[name].index(wait))
