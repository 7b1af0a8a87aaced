"""Turns of a round, some of them marked: how far it is from each one to a marked one."""


def until_marked(marks):
    size = len(marks)
    steps = 0
    untils = []
    # Gone through twice, from the end: behind the first time the steps are right round the round.
    for place in range(2 * size - 1, -1, -1):
        steps = 0 if marks[place % size] else steps + 1
        if place < size:
            untils.append(steps)
    return list(reversed(untils))


def since_marked(marks):
    return list(reversed(until_marked(list(reversed(marks)))))
