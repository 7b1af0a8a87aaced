import unittest

from cases import TOWN, TWELVE, place_of_fault, town, with_more, with_word
from lampway.crossings import Crossing, read_crossing
from lampway.errors import NoText, NoWay
from lampway.ways import CarWay, FootWay, TramWay

FIELDS = ("name", "start", "end", "off", "near", "least")
CLASSES = {"car": CarWay, "foot": FootWay, "tram": TramWay}
# What is no number word at all.
NO_NUMBERS = ["", "x", "-1", "+1", "1.0", "00", "01", "1000", "0001", "1_0"]
ONE = "ring 2\ncar a 0 1 0 0 1"


class Reading(unittest.TestCase):
    def assert_fault(self, text, row, word):
        self.assertEqual(place_of_fault(read_crossing, text), (row, word), text)

    def assert_good(self, text):
        self.assertIsNone(place_of_fault(read_crossing, text), text)

    def assert_read_as_told(self, text):
        crossing = read_crossing(text)
        rows = [row.split(" ") for row in text.split("\n")]
        self.assertIsInstance(crossing, Crossing)
        self.assertEqual(crossing.places, int(rows[0][1]))
        self.assertEqual(crossing.names(), [row[1] for row in rows[1:]])
        for number, row in enumerate(rows[1:]):
            way = crossing.called(row[1])
            self.assertIs(type(way), CLASSES[row[0]])
            self.assertEqual(way.kind, row[0])
            self.assertEqual([way.name] + [str(getattr(way, field)) for field in FIELDS[1:]], row[1:])
            self.assertEqual([type(getattr(way, field)) for field in FIELDS], [str] + [int] * 5)
            self.assertEqual(crossing.number(row[1]), number)

    def test_good_texts(self):
        self.assert_read_as_told(ONE)
        self.assert_read_as_told(TOWN)
        self.assert_read_as_told(TWELVE)
        for sort in CLASSES:
            self.assert_read_as_told(f"ring 99\n{sort} north 98 97 30 30 60")

    def test_each_word_of_the_first_row_spoiled(self):
        for put in ("", "rin", "rings", "Ring", "5", "car", "~", None):
            self.assert_fault(with_word(TOWN, 0, 0, "" if put is None else put), 0, 0)
        for put in NO_NUMBERS + ["0", "1", "100", "999", "08"]:
            self.assert_fault(with_word(TWELVE, 0, 1, put), 0, 1)
        self.assert_fault(with_word(TOWN, 0, 1, None), 0, 1)
        for put in (" ", " 8", " x", "  ", " 8 8"):
            self.assert_fault(with_more(TOWN, 0, put), 0, 2)

    def test_each_word_of_each_way_spoiled(self):
        bad = {
            0: ["", "cars", "Car", "feet", "bus", "tra", "1", "ring"],
            1: ["", "A", "norTh", "a1", "a-b", "ninechars", "abcdefghi", "5", "~"],
            2: NO_NUMBERS + ["99", "100"],
            3: NO_NUMBERS + ["99", "100"],
            4: NO_NUMBERS + ["31"],
            5: NO_NUMBERS + ["31"],
            6: NO_NUMBERS + ["0", "61"],
        }
        for row in range(1, 13):
            for word, puts in bad.items():
                for put in puts:
                    self.assert_fault(with_word(TWELVE, row, word, put), row, word)
                if word:
                    self.assert_fault(with_word(TWELVE, row, word, None), row, word)
            for put in (" ", " 1", " x", "  ", " 1 1"):
                self.assert_fault(with_more(TWELVE, row, put), row, 7)
            self.assert_fault(with_word(TWELVE, row, 0, " car"), row, 0)

    def test_the_bounds_themselves_are_good(self):
        for word, puts in ((4, ["0", "30"]), (5, ["0", "30"]), (6, ["1", "60"])):
            for put in puts:
                self.assert_good(with_word(TOWN, 1, word, put))
        for places in ("2", "3", "98", "99"):
            self.assert_good(with_word(ONE, 0, 1, places))
        self.assert_good(with_word(ONE, 1, 1, "abcdefgh"))

    def test_places_at_and_beyond_places(self):
        for places in (2, 3, 10, 99):
            text = with_word(ONE, 0, 1, str(places))
            last = with_word(with_word(text, 1, 2, str(places - 1)), 1, 3, "0")
            self.assert_good(last)
            self.assert_good(with_word(text, 1, 3, str(places - 1)))
            for beyond in (places, places + 1):
                self.assert_fault(with_word(text, 1, 2, str(beyond)), 1, 2)
                self.assert_fault(with_word(text, 1, 3, str(beyond)), 1, 3)

    def test_to_like_from(self):
        for row in range(1, 7):
            start = TOWN.split("\n")[row].split(" ")[2]
            self.assert_fault(with_word(TOWN, row, 3, start), row, 3)

    def test_a_name_told_twice(self):
        self.assert_fault(with_word(TOWN, 2, 1, "north"), 2, 1)
        self.assert_fault(with_word(TOWN, 6, 1, "north"), 6, 1)
        self.assert_fault(with_word(TOWN, 6, 1, "line"), 6, 1)
        # Going by what stands ahead alone: the row that told it first is good.
        self.assert_fault(with_word(TOWN, 1, 1, "west"), 6, 1)

    def test_a_row_too_many(self):
        for row in ("car w 1 2 3 4 5", "", "x", "car a 1 2 3 4 5", "car"):
            self.assert_fault(TWELVE + "\n" + row, 13, 0)

    def test_rows_lacking(self):
        for places in ("2", "8", "99"):
            self.assert_fault(f"ring {places}", 1, 0)
        self.assert_fault("", 0, 0)

    def test_a_row_without_signs(self):
        self.assert_fault(TOWN + "\n", 7, 0)
        self.assert_fault(TOWN + "\n\n", 7, 0)
        self.assert_fault(ONE + "\n", 2, 0)
        self.assert_fault("ring 8\n", 1, 0)
        self.assert_fault("\n" + TOWN, 0, 0)
        self.assert_fault(TOWN.replace("\n", "\n\n", 1), 1, 0)

    def test_a_row_with_two_faults_has_the_first_word(self):
        self.assert_fault("ring 100 7", 0, 1)
        self.assert_fault("rung 100", 0, 0)
        self.assert_fault("ring 8\ncar a 0 0 31 31 61 7", 1, 3)
        self.assert_fault("ring 8\ncar A", 1, 1)
        self.assert_fault("ring 8\nbus", 1, 0)
        self.assert_fault("ring 8\ncar a 8 8 0 0 1", 1, 2)

    def test_the_first_of_two_faults(self):
        for first in range(1, 6):
            for word in range(7):
                for later in range(first + 1, 7):
                    text = with_word(with_word(TOWN, first, word, "?"), later, 0, "")
                    self.assert_fault(text, first, word)
        self.assert_fault("ring 8 8\nbus", 0, 2)
        self.assert_fault(with_word(TWELVE, 12, 6, "0") + "\ncar w 1 2 3 4 5", 12, 6)

    def test_kinds_of_the_fields(self):
        with self.assertRaises(NoText) as taken:
            read_crossing("ring 8\ncar a 0 0 1 1 1")
        self.assertIs(type(taken.exception.row), int)
        self.assertIs(type(taken.exception.word), int)


class Asking(unittest.TestCase):
    def test_names_that_are_no_ways(self):
        crossing = town()
        for name in ("", "nort", "northe", "North", "car", " north", "north ", "a" * 9000):
            for asked in (crossing.called, crossing.number):
                with self.assertRaises(NoWay) as taken:
                    asked(name)
                self.assertEqual(taken.exception.name, name)
        self.assertEqual(crossing.names(), town().names())

    def test_a_told_list_is_the_askers_own(self):
        crossing = town()
        told = crossing.names()
        told.reverse()
        told.append("more")
        self.assertEqual(crossing.names(), ["north", "east", "turn", "zebra", "line", "west"])
        self.assertEqual(crossing.number("north"), 0)
        self.assertEqual(crossing.called("west").name, "west")

    def test_two_crossings_side_by_side(self):
        one, other = read_crossing(ONE), town()
        self.assertEqual((one.names(), one.places, other.places), (["a"], 2, 8))
        with self.assertRaises(NoWay):
            one.called("north")
        with self.assertRaises(NoWay):
            other.called("a")


if __name__ == "__main__":
    unittest.main()
