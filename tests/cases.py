"""Crossings and plans that several tests use, and how texts are spoiled."""

import random

from lampway.crossings import read_crossing
from lampway.errors import LampError, NoText
from lampway.meets import gap, meet
from lampway.plans import made_plan
from lampway.stages import read_stages

# Cars that cross one another, one that turns off, feet over the road, a tram straight through.
TOWN = "\n".join([
    "ring 8",
    "car north 0 4 3 1 4",
    "car east 2 6 2 2 3",
    "car turn 0 2 2 1 2",
    "foot zebra 7 3 6 0 5",
    "tram line 1 5 4 3 2",
    "car west 6 2 2 1 3",
])

TWELVE = "\n".join([
    "ring 99",
    "car a 0 98 0 0 1",
    "foot bb 98 0 30 30 60",
    "tram ccc 1 2 1 2 3",
    "car dddd 97 1 29 29 59",
    "foot eeeee 50 51 0 30 1",
    "tram ffffff 51 50 30 0 60",
    "car ggggggg 10 20 5 5 5",
    "foot hhhhhhhh 20 10 9 9 9",
    "tram abcdefgh 33 66 10 11 12",
    "car z 66 33 7 8 9",
    "foot y 5 6 1 1 1",
    "tram x 6 5 2 2 2",
])


def town():
    return read_crossing(TOWN)


def with_word(text, row, word, put):
    """The text with one word put in another's place; None as `put` takes the word away, with all behind it."""
    rows = [each.split(" ") for each in text.split("\n")]
    if put is None:
        rows[row] = rows[row][:word]
    else:
        rows[row][word] = put
    return "\n".join([" ".join(each) for each in rows])


def with_more(text, row, put):
    rows = text.split("\n")
    rows[row] = rows[row] + put
    return "\n".join(rows)


def place_of_fault(call, *handed):
    try:
        call(*handed)
    except NoText as fault:
        return (fault.row, fault.word)
    return None


def refusal(call, *handed):
    """The class and the fields of what refuses a call; None where nothing does."""
    try:
        call(*handed)
    except LampError as error:
        return (type(error), dict(vars(error)))
    return None


def drawn_crossing(draw, most_ways=6, most_places=8, most_turns=6, sorts=("car", "foot", "tram")):
    places = draw.randint(2, most_places)
    rows = [f"ring {places}"]
    for number in range(draw.randint(1, most_ways)):
        start = draw.randrange(places)
        end = (start + draw.randrange(1, places)) % places
        off, near = draw.randint(0, most_turns), draw.randint(0, most_turns)
        rows.append(f"{draw.choice(sorts)} {'abcdefghijkl'[number]} {start} {end} {off} {near} {draw.randint(1, 3)}")
    return read_crossing("\n".join(rows))


def drawn_plan(draw, **kinds):
    """A plan that is let by, of a drawn crossing: its ways' spans one behind the other, drawn nearer where it does."""
    while True:
        crossing = drawn_crossing(draw, **kinds)
        for tries in range(30):
            plan = tried_plan(draw, crossing)
            if plan is not None:
                return plan


def tried_plan(draw, crossing):
    size = draw.randint(5, 40)
    rows = []
    for name in crossing.names():
        for number in range(draw.choice([1, 1, 1, 2, 3])):
            rows.append((name, draw.randrange(size), draw.randint(1, max(1, size // draw.randint(2, 6)))))
    draw.shuffle(rows)
    try:
        return made_plan(crossing, size, rows)
    except LampError:
        return None


def drawn_stages_text(draw, crossing, most_turns=5):
    """The text of a plan of stages that is let by, or None where the ways drawn fall into more than six stages."""
    names = crossing.names()
    draw.shuffle(names)
    stages = []
    for name in names:
        fitting = [stage for stage in stages if fits(crossing, stage, name)]
        if fitting and draw.random() < 0.6:
            draw.choice(fitting).append(name)
        else:
            stages.append([name])
    rows = []
    for stage in stages:
        low = max([crossing.called(name).least for name in stage]) + draw.choice([0, 0, 1])
        rows.append(f"stage {low} {low + draw.randint(0, most_turns)} " + " ".join(stage))
    return "\n".join(rows) if len(rows) <= 6 else None


def fits(crossing, stage, name):
    trams = [crossing.called(each).kind == "tram" for each in (stage[0], name)]
    return trams[0] == trams[1] and not any([meet(crossing, each, name) for each in stage])


def drawn_staging(draw, most_ways=6, most_turns=5, **kinds):
    """A crossing and the text of a plan of stages for it that is let by."""
    while True:
        crossing = drawn_crossing(draw, most_ways=most_ways, **kinds)
        text = drawn_stages_text(draw, crossing, most_turns)
        if text is not None:
            return crossing, text


def drawn_stages(draw, **kinds):
    return read_stages(*drawn_staging(draw, **kinds))


class Nearness:
    """Holds rows of colours, turn by turn, against the first promise of point 3."""

    def __init__(self, crossing):
        self.pairs = [(one, other, gap(crossing, one, other)) for one in crossing.names() for other in crossing.names()
                      if one != other and meet(crossing, one, other)]
        self.last_free = {}
        self.turn = 0

    def too_near(self, colours):
        self.last_free.update({name: self.turn for name, shown in colours.items() if shown == "free"})
        found = [(one, other, self.turn) for one, other, turns in self.pairs
                 if colours[other] == "free" and self.turn - self.last_free.get(one, -1000) <= turns]
        self.turn += 1
        return found


def drawing(seed):
    return random.Random(seed)
