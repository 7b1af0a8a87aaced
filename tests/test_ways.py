import unittest

from lampway.ways import CarWay, FootWay, TramWay, Way

SORTS = {"car": CarWay, "foot": FootWay, "tram": TramWay}
FIELDS = ("name", "start", "end", "off", "near", "least")
LEASTS = ("a", 0, 1, 0, 0, 1)
MIDDLES = ("north", 7, 2, 5, 3, 11)
MOSTS = ("abcdefgh", 97, 98, 30, 30, 60)
FACES = {
    "car": {"stop": "red", "ready": "both", "free": "green", "fade": "yellow"},
    "foot": {"stop": "stand", "ready": "stand", "free": "walk", "fade": "hurry"},
    "tram": {"stop": "bar", "ready": "dot", "free": "post", "fade": "slant"},
}
MANY = 10 ** 65 - 1


def fields_of(way):
    return tuple([getattr(way, field) for field in FIELDS])


class Ways(unittest.TestCase):
    def assert_number(self, told, number):
        self.assertIs(type(told), int)
        self.assertEqual(told, number)

    def test_fields_and_kind(self):
        for kind, sort in SORTS.items():
            for values in (LEASTS, MIDDLES, MOSTS):
                way = sort(*values)
                self.assertEqual(fields_of(way), values)
                self.assertEqual(way.kind, kind)

    def test_arguments_by_their_names(self):
        for sort in SORTS.values():
            way = sort(least=11, near=3, off=5, end=2, start=7, name="north")
            self.assertEqual(fields_of(way), MIDDLES)

    def test_each_sort_stands_under_way_and_under_no_other_sort(self):
        for sort in SORTS.values():
            way = sort(*MIDDLES)
            self.assertIsInstance(way, Way)
            self.assertEqual([other for other in SORTS.values() if isinstance(way, other)], [sort])

    def test_ready(self):
        for off in range(31):
            for kind, turns in (("car", 1), ("foot", 0), ("tram", 2)):
                self.assert_number(SORTS[kind]("a", 0, 1, off, 3, 4).ready(), turns)

    def test_fade(self):
        for off in range(31):
            for kind, turns in (("car", 2), ("foot", off), ("tram", 1)):
                self.assert_number(SORTS[kind]("a", 0, 1, off, 3, 4).fade(), turns)

    def test_fade_hangs_on_no_other_field(self):
        for values in (("a", 4, 1, 9, 3, 4), ("b", 0, 4, 9, 30, 4), ("c", 0, 1, 9, 3, 60)):
            self.assert_number(FootWay(*values).fade(), 9)

    def test_one_car_or_tram_goes_if_any(self):
        for sort in (CarWay, TramWay):
            way = sort(*MIDDLES)
            self.assert_number(way.goes(0), 0)
            for many in (1, 2, 3, 60, 10 ** 9, 10 ** 60, MANY):
                self.assert_number(way.goes(many), 1)

    def test_all_feet_go(self):
        way = FootWay(*MIDDLES)
        for many in (0, 1, 2, 3, 60, 10 ** 9, 10 ** 60, MANY):
            self.assert_number(way.goes(many), many)

    def test_face(self):
        for kind, faces in FACES.items():
            way = SORTS[kind](*MIDDLES)
            for colour, face in faces.items():
                self.assertIs(type(way.face(colour)), str)
                self.assertEqual(way.face(colour), face)

    def test_two_ways_of_one_sort_side_by_side(self):
        for kind, sort in SORTS.items():
            one = sort(*MIDDLES)
            other = sort(*MOSTS)
            self.assertEqual(fields_of(one), MIDDLES)
            self.assertEqual(fields_of(other), MOSTS)
            self.assertEqual((one.kind, other.kind), (kind, kind))
            self.assertEqual(one.ready(), other.ready())
            self.assertEqual((one.goes(7), other.goes(4)), (7, 4) if kind == "foot" else (1, 1))
            self.assertEqual(one.face("free"), other.face("free"))
        one = FootWay(*MIDDLES)
        other = FootWay(*MOSTS)
        self.assertEqual((one.fade(), other.fade(), one.fade()), (5, 30, 5))

    def test_asking_changes_nothing(self):
        for kind, sort in SORTS.items():
            way = sort(*MIDDLES)
            first = (way.ready(), way.fade(), way.goes(3), way.face("stop"))
            for colour in ("stop", "ready", "free", "fade"):
                way.face(colour)
            way.goes(MANY)
            self.assertEqual((way.ready(), way.fade(), way.goes(3), way.face("stop")), first)
            self.assertEqual(fields_of(way), MIDDLES)
            self.assertEqual(way.kind, kind)


if __name__ == "__main__":
    unittest.main()
