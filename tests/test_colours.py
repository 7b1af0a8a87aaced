import itertools
import unittest

from lampway.colours import in_order
from lampway.ways import CarWay, FootWay, TramWay

COLOURS = ("stop", "ready", "free", "fade")
CAR = CarWay("car", 0, 1, 5, 0, 3)
TRAM = TramWay("tram", 0, 1, 5, 0, 2)
FOOT = FootWay("foot", 0, 1, 4, 0, 3)
SWIFT = FootWay("swift", 0, 1, 0, 0, 2)
WAYS = (CAR, TRAM, FOOT, SWIFT)


def row(*stretches):
    return [colour for colour, turns in stretches for turn in range(turns)]


def told_in_order(way, colours):
    """Point 11, word by word."""
    groups = [(colour, len(list(each))) for colour, each in itertools.groupby(colours)]
    for (one, turns), (second, more) in zip(groups, groups[1:]):
        allowed = {
            "stop": ["free"] if way.ready() == 0 else ["ready"],
            "ready": ["free"],
            "free": ["stop"] if way.fade() == 0 else ["fade"],
            "fade": ["stop", "free"] if way.ready() == 0 else ["stop", "ready"],
        }[one]
        if second not in allowed:
            return False
    for place, (colour, turns) in enumerate(groups):
        at_edge = place in (0, len(groups) - 1)
        whole = {"ready": way.ready(), "fade": way.fade()}.get(colour)
        if whole is not None and (turns > whole if at_edge else turns != whole):
            return False
        if colour == "free" and not at_edge and turns < way.least:
            return False
    return True


class InOrder(unittest.TestCase):
    def assert_order(self, wanted, way, *stretches):
        self.assertIs(in_order(way, row(*stretches)), wanted, (way.kind, stretches))

    def test_the_empty_row(self):
        for way in WAYS:
            self.assertIs(in_order(way, []), True)

    def test_each_stretch_of_a_car(self):
        def car(ready, free, fade):
            return [("stop", 4), ("ready", ready), ("free", free), ("fade", fade), ("stop", 1)]
        for wanted, turns in ((True, (1, 3, 2)), (True, (1, 40, 2)), (False, (2, 3, 2)), (False, (0, 3, 2)),
                              (False, (1, 2, 2)), (False, (1, 3, 1)), (False, (1, 3, 3)), (False, (1, 3, 0))):
            self.assert_order(wanted, CAR, *car(*turns))

    def test_each_stretch_of_a_tram(self):
        for wanted, ready, free, fade in ((True, 2, 2, 1), (True, 2, 9, 1), (False, 1, 2, 1), (False, 3, 2, 1),
                                          (False, 2, 1, 1), (False, 2, 2, 2), (False, 2, 2, 0)):
            self.assert_order(wanted, TRAM, ("stop", 1), ("ready", ready), ("free", free), ("fade", fade), ("stop", 1))

    def test_each_stretch_of_feet(self):
        for wanted, free, fade in ((True, 3, 4), (True, 4, 4), (False, 2, 4), (False, 3, 3), (False, 3, 5),
                                   (False, 3, 0)):
            self.assert_order(wanted, FOOT, ("stop", 1), ("free", free), ("fade", fade), ("stop", 1))
        self.assert_order(False, FOOT, ("stop", 1), ("ready", 1), ("free", 3), ("fade", 4), ("stop", 1))

    def test_feet_without_fade(self):
        self.assert_order(True, SWIFT, ("stop", 1), ("free", 2), ("stop", 1))
        self.assert_order(False, SWIFT, ("stop", 1), ("free", 1), ("stop", 1))
        self.assert_order(False, SWIFT, ("free", 2), ("fade", 1), ("stop", 1))
        self.assert_order(False, SWIFT, ("fade", 1))
        self.assert_order(False, SWIFT, ("ready", 1))

    def test_first_and_last_stretches_cut(self):
        self.assert_order(True, CAR, ("fade", 1), ("stop", 1))
        self.assert_order(True, CAR, ("fade", 2), ("stop", 1))
        self.assert_order(False, CAR, ("fade", 3), ("stop", 1))
        self.assert_order(True, CAR, ("free", 1), ("fade", 2), ("stop", 1))
        self.assert_order(True, CAR, ("free", 1), ("fade", 1))
        self.assert_order(False, CAR, ("free", 1), ("fade", 3))
        self.assert_order(True, TRAM, ("ready", 1), ("free", 1))
        self.assert_order(True, TRAM, ("ready", 2), ("free", 1))
        self.assert_order(False, TRAM, ("ready", 3), ("free", 1))
        self.assert_order(True, TRAM, ("stop", 9), ("ready", 1))
        self.assert_order(True, TRAM, ("stop", 9), ("ready", 2))
        self.assert_order(False, TRAM, ("stop", 9), ("ready", 3))
        self.assert_order(True, FOOT, ("stop", 9), ("free", 1))

    def test_one_stretch_alone(self):
        for way in WAYS:
            self.assert_order(True, way, ("stop", 1))
            self.assert_order(True, way, ("stop", 500))
            self.assert_order(True, way, ("free", 1))
            self.assert_order(True, way, ("free", 500))
            for colour, most in (("ready", way.ready()), ("fade", way.fade())):
                for turns in range(1, 8):
                    self.assert_order(turns <= most, way, (colour, turns))

    def test_each_colour_behind_each_other_one(self):
        good = {
            "car": [("stop", "ready"), ("ready", "free"), ("free", "fade"), ("fade", "stop"), ("fade", "ready")],
            "tram": [("stop", "ready"), ("ready", "free"), ("free", "fade"), ("fade", "stop"), ("fade", "ready")],
            "foot": [("stop", "free"), ("free", "fade"), ("fade", "stop"), ("fade", "free")],
            "swift": [("stop", "free"), ("free", "stop")],
        }
        for way in WAYS:
            for one, second in itertools.permutations(COLOURS, 2):
                self.assert_order((one, second) in good[way.name], way, (one, 1), (second, 1))

    def test_fade_straight_into_what_comes_again(self):
        self.assert_order(True, CAR, ("free", 1), ("fade", 2), ("ready", 1), ("free", 1))
        self.assert_order(False, CAR, ("free", 1), ("fade", 1), ("ready", 1), ("free", 1))
        self.assert_order(False, CAR, ("free", 1), ("fade", 2), ("free", 1))
        self.assert_order(True, FOOT, ("free", 1), ("fade", 4), ("free", 3), ("fade", 4))
        self.assert_order(False, FOOT, ("free", 1), ("fade", 4), ("free", 2), ("fade", 4))

    def test_every_short_row(self):
        ways = [CarWay("a", 0, 1, 1, 0, 2), TramWay("b", 0, 1, 1, 0, 1), FootWay("c", 0, 1, 1, 0, 2),
                FootWay("d", 0, 1, 0, 0, 1), FootWay("e", 0, 1, 2, 0, 1)]
        for length in range(7):
            for colours in itertools.product(COLOURS, repeat=length):
                for way in ways:
                    self.assertIs(in_order(way, list(colours)), told_in_order(way, colours))

    def test_rows_of_many_colours(self):
        whole = row(("stop", 3), ("ready", 1), ("free", 4), ("fade", 2)) * 2000
        kept = list(whole)
        self.assertIs(in_order(CAR, whole), True)
        self.assertEqual(whole, kept)
        whole[-5] = "stop"
        self.assertIs(in_order(CAR, whole), False)
        self.assertIs(in_order(CAR, ["stop"] * 20000), True)


if __name__ == "__main__":
    unittest.main()
