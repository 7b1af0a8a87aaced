"""The colours of a lamp, turn by turn, and whether they come in order."""


def stretches(colours):
    found = []
    begin = 0
    for turn, colour in enumerate(colours):
        if turn + 1 == len(colours) or colours[turn + 1] != colour:
            found.append((colour, turn + 1 - begin))
            begin = turn + 1
    return found


def may_follow(way, colour):
    into_free = "free" if way.ready() == 0 else "ready"
    if colour == "stop":
        return [into_free]
    if colour == "ready":
        return ["free"]
    if colour == "free":
        return ["stop" if way.fade() == 0 else "fade"]
    return ["stop", into_free]


def follow_well(way, found):
    for one, second in zip(found, found[1:]):
        if second[0] not in may_follow(way, one[0]):
            return False
    return True


def last_well(way, colour, turns, is_whole):
    if colour == "ready":
        return turns == way.ready() or (turns < way.ready() and not is_whole)
    if colour == "fade":
        return turns == way.fade() or (turns < way.fade() and not is_whole)
    if colour == "free":
        return turns >= way.least or not is_whole
    return True


def in_order(way, colours):
    found = stretches(colours)
    for place, stretch in enumerate(found):
        # What came ahead of the row and comes behind it isn't told: a stretch at an edge may go on there.
        is_whole = 0 < place and place < len(found) - 1
        if not last_well(way, stretch[0], stretch[1], is_whole):
            return False
    return follow_well(way, found)
