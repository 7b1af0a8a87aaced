"""A crossing: its ring of places and the ways over it."""

from lampway.errors import NoText, NoWay
from lampway.rows import readers
from lampway.ways import CarWay, FootWay, TramWay
from lampway.words import is_name

LEAST_PLACES = 2
MOST_PLACES = 99
MOST_WAYS = 12
MOST_OFF = 30
MOST_NEAR = 30
MOST_LEAST = 60


class Crossing:
    def __init__(self, places, ways):
        self.places = places
        self.ways = ways
        self.numbers = {}
        for number, way in enumerate(ways):
            self.numbers[way.name] = number

    def names(self):
        return [way.name for way in self.ways]

    def number(self, name):
        if name not in self.numbers:
            raise NoWay(name)
        return self.numbers[name]

    def called(self, name):
        return self.ways[self.number(name)]


def read_ring(reader):
    reader.one_of(["ring"])
    places = reader.figures(LEAST_PLACES, MOST_PLACES)
    reader.finish()
    return places


def read_new_name(reader, ways):
    name = reader.ahead()
    reader.take(is_name(name) and name not in [way.name for way in ways])
    return name


def read_end(reader, places, start):
    if reader.ahead() == str(start):
        reader.refuse()
    return reader.figures(0, places - 1)


def made_way(sort, name, start, end, off, near, least):
    if sort == "car":
        return CarWay(name, start, end, off, near, least)
    if sort == "foot":
        return FootWay(name, start, end, off, near, least)
    return TramWay(name, start, end, off, near, least)


def read_way(reader, places, ways):
    sort = reader.one_of(["car", "foot", "tram"])
    name = read_new_name(reader, ways)
    start = reader.figures(0, places - 1)
    end = read_end(reader, places, start)
    off = reader.figures(0, MOST_OFF)
    near = reader.figures(0, MOST_NEAR)
    least = reader.figures(1, MOST_LEAST)
    reader.finish()
    return made_way(sort, name, start, end, off, near, least)


def read_crossing(text):
    rows = readers(text)
    places = read_ring(rows[0])
    ways = []
    for reader in rows[1:]:
        if len(ways) == MOST_WAYS:
            reader.refuse()
        ways.append(read_way(reader, places, ways))
    if not ways:
        raise NoText(1, 0)
    return Crossing(places, ways)
