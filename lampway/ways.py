"""The ways over a crossing: what each has, and what its sort makes of it."""

CAR_FACES = {"stop": "red", "ready": "both", "free": "green", "fade": "yellow"}
FOOT_FACES = {"stop": "stand", "ready": "stand", "free": "walk", "fade": "hurry"}
TRAM_FACES = {"stop": "bar", "ready": "dot", "free": "post", "fade": "slant"}


class Way:
    def __init__(self, kind, name, start, end, off, near, least):
        self.kind = kind
        self.name = name
        self.start = start
        self.end = end
        self.off = off
        self.near = near
        self.least = least


class CarWay(Way):
    def __init__(self, name, start, end, off, near, least):
        Way.__init__(self, "car", name, start, end, off, near, least)

    def ready(self):
        return 1

    def fade(self):
        return 2

    def goes(self, many):
        return min(many, 1)

    def face(self, colour):
        return CAR_FACES[colour]


class FootWay(Way):
    def __init__(self, name, start, end, off, near, least):
        Way.__init__(self, "foot", name, start, end, off, near, least)

    def ready(self):
        return 0

    # Who set foot on the crossing in the last free turn still has to come off it.
    def fade(self):
        return self.off

    def goes(self, many):
        return many

    def face(self, colour):
        return FOOT_FACES[colour]


class TramWay(Way):
    def __init__(self, name, start, end, off, near, least):
        Way.__init__(self, "tram", name, start, end, off, near, least)

    def ready(self):
        return 2

    def fade(self):
        return 1

    def goes(self, many):
        return min(many, 1)

    def face(self, colour):
        return TRAM_FACES[colour]
