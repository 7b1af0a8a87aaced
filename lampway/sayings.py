"""The rows that a desk is told, read into their words' values."""

from lampway.errors import NoRow, NoText
from lampway.rows import RowReader
from lampway.words import is_name, turned, words

WITH_TEXT = ("crossing", "plan", "stages")
MOST_DRAWN = 200
MOST_WANTS = 5
MOST_WANTED = 60
# What follows the first word of each row.
FORMS = {
    "crossing": ("name",),
    "plan": ("name", "name"),
    "stages": ("name", "name"),
    "colours": ("name", "turn"),
    "wait": ("name", "name", "turn"),
    "longest": ("name", "name"),
    "draw": ("name", "turn", "many"),
    "turn": ("name", "names"),
    "worst": ("name", "name"),
    "shortest": ("name", "wants"),
}


def read_name(reader):
    name = reader.ahead()
    reader.take(is_name(name))
    return name


def read_names(reader):
    names = []
    while reader.has_more():
        names.append(read_name(reader))
    return names


def read_turn(reader):
    turn = turned(reader.ahead())
    reader.take(turn is not None)
    return turn


def read_want(reader, known):
    name = reader.ahead()
    reader.take(is_name(name) and name not in known)
    return (name, reader.figures(1, MOST_WANTED))


def read_wants(reader):
    wants = [read_want(reader, [])]
    while reader.has_more() and len(wants) < MOST_WANTS:
        wants.append(read_want(reader, [name for name, turns in wants]))
    return wants


def read_part(reader, part):
    if part == "name":
        return read_name(reader)
    if part == "names":
        return read_names(reader)
    if part == "turn":
        return read_turn(reader)
    if part == "many":
        return reader.figures(1, MOST_DRAWN)
    return read_wants(reader)


# The first word, and the list of what follows it.
def read_words(told):
    reader = RowReader(0, words(told)[0])
    first = reader.one_of(list(FORMS))
    parts = [read_part(reader, part) for part in FORMS[first]]
    reader.finish()
    return (first, parts)


# The first word, the list of what follows it, and the TEXT where one is told.
def read_saying(row):
    told, line_end, text = row.partition("\n")
    try:
        first, parts = read_words(told)
    except NoText:
        raise NoRow("the row's words are not as told") from None
    if (line_end == "\n") != (first in WITH_TEXT):
        raise NoRow("a text where none is told, or none where one is")
    return (first, parts, text)
