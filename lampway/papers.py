"""Begins that do for a round, and papers that show that none do.

What is in order is a dict: it has the key (i, j) where the want i is ahead of the want j.
"""

from lampway.wanted import Wanted


def begins_do(crossing, wants, size, begins):
    wanted = Wanted(crossing, wants)
    if max(wanted.alones) > size:
        return False
    for one, other in wanted.steps:
        if (begins[other] - begins[one]) % size < wanted.steps[(one, other)]:
            return False
    return True


def order_at_first(wanted):
    order = {}
    for other in range(1, wanted.many):
        if (0, other) in wanted.steps:
            order[(0, other)] = True
    return order


def in_some_order(order, one, other):
    return (one, other) in order or (other, one) in order


def with_ahead(order, one, other):
    more = dict(order)
    more[(one, other)] = True
    return more


# By how many turns the other's begin must lie behind the one's, where each round's turns are counted from 0 anew.
def step_in_order(wanted, size, order, one, other):
    step = wanted.steps[(one, other)]
    return step - size if (other, one) in order else step


def ring_bears(wanted, size, order, ring):
    if len(ring) < 2 or len(set(ring)) < len(ring):
        return False
    total = 0
    for place, one in enumerate(ring):
        other = ring[(place + 1) % len(ring)]
        if not in_some_order(order, one, other):
            return False
        total += step_in_order(wanted, size, order, one, other)
    return total > 0


def case_bears(wanted, size, order, paper):
    one, other = paper[1], paper[2]
    if (one, other) not in wanted.steps or in_some_order(order, one, other):
        return False
    if not paper_bears(wanted, size, with_ahead(order, one, other), paper[3]):
        return False
    return paper_bears(wanted, size, with_ahead(order, other, one), paper[4])


def paper_bears(wanted, size, order, paper):
    if paper[0] == "alone":
        return wanted.alones[paper[1]] > size
    if paper[0] == "ring":
        return ring_bears(wanted, size, order, paper[1])
    return case_bears(wanted, size, order, paper)


def bears(crossing, wants, size, paper):
    wanted = Wanted(crossing, wants)
    return paper_bears(wanted, size, order_at_first(wanted), paper)
