"""Plans of a round: read, let by or refused, written again."""

from lampway.errors import Clash, Never, Short
from lampway.meets import gap, meet
from lampway.rows import readers
from lampway.turns import since_marked, until_marked

MOST_SIZE = 240
MOST_SPANS = 3


class Plan:
    def __init__(self, crossing, size, spans):
        self.crossing = crossing
        self.size = size
        self.spans = spans
        self.lamps = {}
        self.untils = {}
        for name in crossing.names():
            self.lamps[name] = lamp(crossing.called(name), size, spans)
            self.untils[name] = until_marked(free_marks(size, spans, name))


def spans_of(spans, name):
    return [(begin, turns) for called, begin, turns in spans if called == name]


def free_marks(size, spans, name):
    marks = [False for turn in range(size)]
    for begin, turns in spans_of(spans, name):
        for step in range(turns):
            marks[(begin + step) % size] = True
    return marks


def lamp(way, size, spans):
    shown = ["stop" for turn in range(size)]
    for begin, turns in spans_of(spans, way.name):
        for step in range(way.ready()):
            shown[(begin - 1 - step) % size] = "ready"
        for step in range(turns):
            shown[(begin + step) % size] = "free"
        for step in range(way.fade()):
            shown[(begin + turns + step) % size] = "fade"
    return shown


def read_size(reader):
    reader.one_of(["round"])
    size = reader.figures(1, MOST_SIZE)
    reader.finish()
    return size


def read_span(reader, crossing, size, spans):
    reader.one_of(["free"])
    name = reader.one_of([known for known in crossing.names() if len(spans_of(spans, known)) < MOST_SPANS])
    begin = reader.figures(0, size - 1)
    turns = reader.figures(1, size)
    reader.finish()
    return (name, begin, turns)


def read_plan(crossing, text):
    rows = readers(text)
    size = read_size(rows[0])
    spans = []
    for reader in rows[1:]:
        spans.append(read_span(reader, crossing, size, spans))
    return made_plan(crossing, size, spans)


def refuse_never(crossing, spans):
    for name in crossing.names():
        if not spans_of(spans, name):
            raise Never(name)


def turns_to_next_begin(size, spans, place):
    name, begin, turns = spans[place]
    others = [span for at, span in enumerate(spans) if at != place]
    return min([(later - begin) % size for later, many in spans_of(others, name)], default=size)


def refuse_short(crossing, size, spans):
    for place, span in enumerate(spans):
        name, begin, turns = span
        way = crossing.called(name)
        needed = turns + way.fade() + way.ready()
        if turns < way.least or turns_to_next_begin(size, spans, place) < needed:
            raise Short(name, begin)


def refuse_clash_of(crossing, one, other, since_one, since_other):
    between = gap(crossing, one, other)
    for turn, steps in enumerate(since_one):
        if since_other[turn] == 0 and steps <= between:
            raise Clash(one, other, turn)


def refuse_clash(crossing, size, spans):
    since = {}
    for name in crossing.names():
        since[name] = since_marked(free_marks(size, spans, name))
    for one in crossing.names():
        for other in crossing.names():
            if one != other and meet(crossing, one, other):
                refuse_clash_of(crossing, one, other, since[one], since[other])


def made_plan(crossing, size, rows):
    spans = [(name, begin, turns) for name, begin, turns in rows]
    for name, begin, turns in spans:
        crossing.called(name)
    refuse_never(crossing, spans)
    refuse_short(crossing, size, spans)
    refuse_clash(crossing, size, spans)
    return Plan(crossing, size, spans)


def written(plan):
    size = plan.size
    rows = [f"round {size}"]
    for name, begin, turns in plan.spans:
        rows.append(f"free {name} {begin} {turns}")
    return "\n".join(rows)
