"""Who meets whom, with which gap; sets of ways that are apart."""


def in_bow(places, way, place):
    steps = (place - way.start) % places
    return 0 < steps and steps < (way.end - way.start) % places


def bows_cross(places, way, second):
    if second.start in [way.start, way.end] or second.end in [way.start, way.end]:
        return False
    return in_bow(places, way, second.start) != in_bow(places, way, second.end)


def meet(crossing, one, other):
    way = crossing.called(one)
    second = crossing.called(other)
    return way.end == second.end or bows_cross(crossing.places, way, second)


def gap(crossing, one, other):
    way = crossing.called(one)
    second = crossing.called(other)
    return max(0, way.off - second.near)


def set_of(flags):
    total = 0
    for flag in reversed(flags):
        total = 2 * total + (1 if flag else 0)
    return total


def against(crossing, name):
    return set_of([other != name and meet(crossing, name, other) for other in crossing.names()])


def apart(crossing, some):
    rest = some
    for name in crossing.names():
        if rest % 2 == 1 and (against(crossing, name) & some) != 0:
            return False
        rest = rest // 2
    return True


# A way is in a greatest set just where it meets none of the set: else it could be added, or had to go.
def is_greatest(foes, some):
    rest = some
    for foe in foes:
        if (rest % 2 == 1) != ((foe & some) == 0):
            return False
        rest = rest // 2
    return True


def greatest(crossing):
    foes = [against(crossing, name) for name in crossing.names()]
    every_way = set_of([True for foe in foes])
    return [some for some in range(every_way + 1) if is_greatest(foes, some)]
