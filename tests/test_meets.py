import itertools
import unittest

from cases import TWELVE, drawing, drawn_crossing, town
from lampway.crossings import read_crossing
from lampway.errors import NoWay
from lampway.meets import against, apart, gap, greatest, meet


def two(places, one, other, offs=(0, 0), nears=(0, 0)):
    return read_crossing(f"ring {places}\ncar one {one[0]} {one[1]} {offs[0]} {nears[0]} 1\n"
                         f"foot other {other[0]} {other[1]} {offs[1]} {nears[1]} 1")


def bow(places, way):
    """The places strictly between, gone through one by one."""
    between = []
    place = (way.start + 1) % places
    while place != way.end:
        between.append(place)
        place = (place + 1) % places
    return between


def told_meet(crossing, one, other):
    way, second = crossing.called(one), crossing.called(other)
    if way.end == second.end:
        return True
    if {way.start, way.end} & {second.start, second.end}:
        return False
    inside = bow(crossing.places, way)
    return (second.start in inside) + (second.end in inside) == 1


def told_apart(crossing, some):
    names = [name for number, name in enumerate(crossing.names()) if some >> number & 1]
    return not any([told_meet(crossing, one, other) for one, other in itertools.combinations(names, 2)])


def told_greatest(crossing):
    many = len(crossing.names())
    found = []
    for some in range(1 << many):
        more = [some | 1 << number for number in range(many) if not some >> number & 1]
        if told_apart(crossing, some) and not any([told_apart(crossing, each) for each in more]):
            found.append(some)
    return found


class Meeting(unittest.TestCase):
    def assert_meet(self, wanted, places, one, other):
        crossing = two(places, one, other)
        self.assertIs(meet(crossing, "one", "other"), wanted, (places, one, other))
        self.assertIs(meet(crossing, "other", "one"), wanted, (places, one, other))

    def test_the_same_end(self):
        self.assert_meet(True, 8, (0, 4), (2, 4))
        self.assert_meet(True, 8, (0, 4), (0, 4))
        self.assert_meet(True, 3, (0, 1), (2, 1))

    def test_the_same_begin(self):
        self.assert_meet(False, 8, (0, 4), (0, 2))
        self.assert_meet(False, 8, (7, 0), (7, 6))

    def test_one_begins_where_the_other_ends(self):
        self.assert_meet(False, 8, (0, 4), (4, 2))
        self.assert_meet(False, 8, (0, 4), (4, 0))
        self.assert_meet(False, 2, (0, 1), (1, 0))
        self.assert_meet(False, 8, (0, 4), (2, 0))

    def test_crossing_bows(self):
        self.assert_meet(True, 8, (0, 4), (2, 6))
        self.assert_meet(True, 8, (0, 4), (6, 2))
        self.assert_meet(True, 8, (4, 0), (2, 6))
        self.assert_meet(True, 4, (0, 2), (1, 3))

    def test_bows_that_do_not_cross(self):
        self.assert_meet(False, 8, (0, 4), (1, 3))
        self.assert_meet(False, 8, (0, 4), (3, 1))
        self.assert_meet(False, 8, (0, 4), (5, 7))
        self.assert_meet(False, 8, (0, 4), (7, 5))

    def test_bows_round_the_last_place(self):
        self.assert_meet(True, 8, (6, 2), (0, 4))
        self.assert_meet(True, 8, (6, 2), (7, 3))
        self.assert_meet(True, 8, (7, 1), (0, 6))
        self.assert_meet(False, 8, (6, 2), (7, 1))
        self.assert_meet(False, 8, (6, 2), (3, 5))
        self.assert_meet(True, 99, (98, 1), (0, 50))

    def test_every_two_ways_of_small_rings(self):
        for places in range(2, 7):
            ways = list(itertools.permutations(range(places), 2))
            for one in ways:
                for other in ways:
                    crossing = two(places, one, other)
                    self.assert_meet(told_meet(crossing, "one", "other"), places, one, other)


class Gaps(unittest.TestCase):
    def assert_gap(self, wanted, off, near):
        crossing = two(8, (0, 4), (2, 6), (off, 0), (0, near))
        told = gap(crossing, "one", "other")
        self.assertIs(type(told), int)
        self.assertEqual(told, wanted)

    def test_off_less_near_but_at_least_0(self):
        self.assert_gap(5, 7, 2)
        self.assert_gap(1, 3, 2)
        self.assert_gap(0, 2, 2)
        self.assert_gap(0, 2, 3)
        self.assert_gap(0, 0, 30)
        self.assert_gap(30, 30, 0)
        self.assert_gap(0, 0, 0)

    def test_unlike_either_way_about(self):
        crossing = two(8, (0, 4), (2, 6), (9, 4), (1, 2))
        self.assertEqual((gap(crossing, "one", "other"), gap(crossing, "other", "one")), (7, 3))
        crossing = two(8, (0, 4), (2, 6), (1, 9), (1, 4))
        self.assertEqual((gap(crossing, "one", "other"), gap(crossing, "other", "one")), (0, 8))


class Sets(unittest.TestCase):
    def test_against(self):
        crossing = town()
        for name in crossing.names():
            wanted = sum([2 ** number for number, other in enumerate(crossing.names())
                          if other != name and told_meet(crossing, name, other)])
            told = against(crossing, name)
            self.assertIs(type(told), int)
            self.assertEqual(told, wanted)
        self.assertEqual(against(crossing, "north"), 2 ** 1 + 2 ** 3 + 2 ** 4 + 2 ** 5)

    def test_a_way_alone(self):
        crossing = read_crossing("ring 2\ntram a 0 1 0 0 1")
        self.assertEqual(against(crossing, "a"), 0)
        self.assertIs(apart(crossing, 0), True)
        self.assertIs(apart(crossing, 1), True)
        self.assertEqual(greatest(crossing), [1])

    def test_the_empty_set_and_all_ways(self):
        crossing = town()
        self.assertIs(apart(crossing, 0), True)
        self.assertIs(apart(crossing, 2 ** 6 - 1), False)
        none_meet = read_crossing("ring 9\ncar a 0 1 0 0 1\ncar b 2 3 0 0 1\ncar c 4 5 0 0 1\ncar d 0 6 0 0 1")
        self.assertIs(apart(none_meet, 15), True)
        self.assertEqual(greatest(none_meet), [15])
        all_meet = read_crossing("ring 9\ncar a 0 8 0 0 1\ncar b 2 8 0 0 1\ncar c 4 8 0 0 1\ncar d 6 8 0 0 1")
        self.assertIs(apart(all_meet, 15), False)
        self.assertEqual(greatest(all_meet), [1, 2, 4, 8])

    def test_every_set_of_drawn_crossings(self):
        draw = drawing(1)
        for tries in range(60):
            crossing = drawn_crossing(draw, most_ways=7, most_places=9)
            for some in range(2 ** len(crossing.names())):
                self.assertIs(apart(crossing, some), told_apart(crossing, some))
            self.assertEqual(greatest(crossing), told_greatest(crossing))

    def test_twelve_ways(self):
        self.assertEqual(greatest(read_crossing(TWELVE)), [2 ** 12 - 1])
        ways = [f"car {name} {number} {(3 * number + 5) % 12} 1 1 1" for number, name in enumerate("abcdefghijkl")]
        crossing = read_crossing("\n".join(["ring 12"] + ways))
        told = greatest(crossing)
        self.assertEqual(told, told_greatest(crossing))
        self.assertEqual(told, sorted(told))
        self.assertEqual(len(told), 26)

    def test_a_told_list_is_the_askers_own(self):
        crossing = town()
        told = greatest(crossing)
        kept = list(told)
        told.clear()
        self.assertEqual(greatest(crossing), kept)


class Names(unittest.TestCase):
    def test_names_that_are_no_ways(self):
        crossing = town()
        for asked in (meet, gap):
            for one, other, name in (("no", "north", "no"), ("north", "no", "no"), ("no", "nor", "no"), ("", "x", "")):
                with self.assertRaises(NoWay) as taken:
                    asked(crossing, one, other)
                self.assertEqual(taken.exception.name, name)
        with self.assertRaises(NoWay) as taken:
            against(crossing, "nort")
        self.assertEqual(taken.exception.name, "nort")


if __name__ == "__main__":
    unittest.main()
