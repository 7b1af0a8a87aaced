"""Plans of stages: read, let by or refused; the changes from one stage to another."""

from lampway.errors import Clash, Never, Short
from lampway.meets import gap, meet
from lampway.rows import readers

MOST_STAGES = 6
MOST_TURNS = 60


class Stages:
    def __init__(self, crossing, rows):
        self.crossing = crossing
        self.many = len(rows)
        self.leasts = [least for least, most, members in rows]
        self.mosts = [most for least, most, members in rows]
        self.members = [members for least, most, members in rows]
        self.sorts = [sort_of(crossing, members[0]) for least, most, members in rows]
        self.homes = homes_in(self.members)
        self.changes = {}
        for one in range(self.many):
            for other in range(self.many):
                if one != other:
                    self.changes[(one, other)] = change_turns(crossing, self.members[one], self.members[other])


def sort_of(crossing, name):
    return "trams" if crossing.called(name).kind == "tram" else "others"


# Each way's stage, by its name.
def homes_in(members):
    homes = {}
    for number, names in enumerate(members):
        for name in names:
            homes[name] = number
    return homes


# Ways of a third stage count too: they may have been free a short time ago.
def change_turns(crossing, first, second):
    turns = [0]
    turns.extend([crossing.called(name).fade() for name in first])
    turns.extend([crossing.called(name).ready() for name in second])
    for one in crossing.names():
        if one not in second:
            turns.extend([gap(crossing, one, other) for other in second if meet(crossing, one, other)])
    return max(turns)


def names_left(crossing, rows):
    told = homes_in([members for least, most, members in rows])
    return [name for name in crossing.names() if name not in told]


def read_members(reader, crossing, left):
    first = reader.one_of(left)
    members = [first]
    alike = [name for name in left if sort_of(crossing, name) == sort_of(crossing, first)]
    while reader.has_more():
        members.append(reader.one_of([name for name in alike if name not in members]))
    return members


def read_stage(reader, crossing, rows):
    reader.one_of(["stage"])
    least = reader.figures(1, MOST_TURNS)
    most = reader.figures(least, MOST_TURNS)
    return (least, most, read_members(reader, crossing, names_left(crossing, rows)))


def refuse_never(crossing, rows):
    left = names_left(crossing, rows)
    if left:
        raise Never(left[0])


def refuse_short(crossing, rows):
    homes = homes_in([members for least, most, members in rows])
    for name in crossing.names():
        number = homes[name]
        if rows[number][0] < crossing.called(name).least:
            raise Short(name, number)


def refuse_clash(crossing, rows):
    for number, row in enumerate(rows):
        for one in row[2]:
            for other in row[2]:
                if one != other and meet(crossing, one, other):
                    raise Clash(one, other, number)


def read_stages(crossing, text):
    rows = []
    for reader in readers(text):
        if len(rows) == MOST_STAGES:
            reader.refuse()
        rows.append(read_stage(reader, crossing, rows))
    refuse_never(crossing, rows)
    refuse_short(crossing, rows)
    refuse_clash(crossing, rows)
    return Stages(crossing, rows)


def ways_in(stages, number):
    return list(stages.members[number])


def change(stages, one, other):
    return stages.changes[(one, other)]
