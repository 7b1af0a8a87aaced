"""A desk: told rows one at a time, it keeps books of crossings, plans and keepers, and answers."""

from lampway.crossings import read_crossing
from lampway.drawing import drawn
from lampway.errors import NoName
from lampway.keeper import Keeper
from lampway.looks import colours, longest, next_free
from lampway.plans import read_plan
from lampway.rounds import shortest
from lampway.sayings import read_saying
from lampway.stages import read_stages
from lampway.worst import worst


def looked_up(book, name):
    if name not in book:
        raise NoName(name)
    return book[name]


def colours_row(shown):
    return " ".join([f"{name} {colour}" for name, colour in shown.items()])


def wait_row(plan, name, turn):
    return str(next_free(plan, name, turn) - turn)


def longest_row(plan, name):
    wait, turn = longest(plan, name)
    return f"{wait} {turn}"


def draw_rows(plan, turn, many):
    return "\n".join(drawn(turn, [colours(plan, turn + step) for step in range(many)]))


def worst_row(stages, name):
    return str(worst(stages, name)[0])


def shortest_row(crossing, wants):
    return str(shortest(crossing, wants)[0])


class Desk:
    def __init__(self):
        self.crossings = {}
        self.plans = {}
        # Of each keeper the plan of stages is kept too, with the keeper behind it.
        self.keepers = {}

    def say(self, row):
        first, parts, text = read_saying(row)
        if first in ["crossing", "plan", "stages"]:
            self.take_text(first, parts, text)
            return "ok"
        if first in ["turn", "worst"]:
            return self.answer_of_keeper(first, parts)
        if first == "shortest":
            return shortest_row(looked_up(self.crossings, parts[0]), parts[1])
        return self.answer_of_plan(first, parts)

    def take_text(self, first, parts, text):
        if first == "crossing":
            self.crossings[parts[0]] = read_crossing(text)
            return
        crossing = looked_up(self.crossings, parts[1])
        if first == "plan":
            self.plans[parts[0]] = read_plan(crossing, text)
        else:
            stages = read_stages(crossing, text)
            self.keepers[parts[0]] = (stages, Keeper(stages))

    def answer_of_keeper(self, first, parts):
        stages, keeper = looked_up(self.keepers, parts[0])
        if first == "turn":
            return colours_row(keeper.pass_turn(parts[1]))
        return worst_row(stages, parts[1])

    def answer_of_plan(self, first, parts):
        plan = looked_up(self.plans, parts[0])
        if first == "colours":
            return colours_row(colours(plan, parts[1]))
        if first == "wait":
            return wait_row(plan, parts[1], parts[2])
        if first == "longest":
            return longest_row(plan, parts[1])
        return draw_rows(plan, parts[1], parts[2])
