"""The rows of a text, each read word by word up to its first fault."""

from lampway.errors import NoText
from lampway.words import figured, words


class RowReader:
    def __init__(self, row, told):
        self.row = row
        self.told = told
        self.place = 0

    # A lacking word is read as one without signs, which is nowhere as told: so the fault has the lacking word's place.
    def ahead(self):
        if self.place == len(self.told):
            return ""
        return self.told[self.place]

    def has_more(self):
        return self.place < len(self.told)

    def refuse(self):
        raise NoText(self.row, self.place)

    def take(self, good):
        if not good:
            self.refuse()
        self.place += 1

    def one_of(self, choices):
        found = self.ahead()
        self.take(found in choices)
        return found

    def figures(self, low, high):
        found = figured(self.ahead(), low, high)
        self.take(found is not None)
        return found

    def finish(self):
        if self.has_more():
            self.refuse()


def readers(text):
    return [RowReader(row, told) for row, told in enumerate(words(text))]
