import unittest

from cases import drawing, drawn_stages, place_of_fault, refusal, town, with_more, with_word
from lampway.crossings import read_crossing
from lampway.errors import Clash, LampError, Never, Short
from lampway.meets import gap, meet
from lampway.stages import Stages, change, read_stages, ways_in

NO_NUMBERS = ["", "x", "-1", "+1", "1.0", "00", "01", "1000", "1_0"]
GOOD = "stage 4 8 north turn\nstage 3 6 west east\nstage 2 3 line\nstage 5 60 zebra"
# Ways that meet nowhere: any of one sort may stand in one stage.
LOOSE = read_crossing("\n".join(["ring 99"] + [f"{sort} {name} {2 * number} {2 * number + 1} 2 0 1" for number, (sort, name)
                      in enumerate(zip(["car", "foot", "tram"] * 4, "abcdefghijkl"))]))
SIX = "stage 1 1 a\nstage 60 60 b d e\nstage 1 60 c\nstage 5 6 f i\nstage 7 7 l\nstage 9 30 k j h g"


class Reading(unittest.TestCase):
    def assert_fault(self, text, row, word, crossing=None):
        self.assertEqual(place_of_fault(read_stages, crossing or town(), text), (row, word), text)

    def test_good_texts(self):
        stages = read_stages(town(), GOOD)
        self.assertIsInstance(stages, Stages)
        self.assertEqual(stages.many, 4)
        self.assertEqual([ways_in(stages, number) for number in range(4)],
                         [["north", "turn"], ["west", "east"], ["line"], ["zebra"]])
        six = read_stages(LOOSE, SIX)
        self.assertEqual(six.many, 6)
        self.assertEqual(ways_in(six, 5), ["k", "j", "h", "g"])
        one = read_stages(read_crossing("ring 2\ntram a 0 1 0 0 60"), "stage 60 60 a")
        self.assertEqual((one.many, ways_in(one, 0)), (1, ["a"]))

    def test_each_word_of_each_row_spoiled(self):
        bad = {
            0: ["", "stag", "stages", "Stage", "free", "5"],
            1: NO_NUMBERS + ["0", "61"],
            2: NO_NUMBERS + ["0", "61", "999"],
            3: ["", "aa", "A", "5", "abcdefghi", "m"],
        }
        for row in range(6):
            for word, puts in bad.items():
                for put in puts:
                    self.assert_fault(with_word(SIX, row, word, put), row, word, LOOSE)
                if word:
                    self.assert_fault(with_word(SIX, row, word, None), row, word, LOOSE)
            count = len(SIX.split("\n")[row].split(" "))
            for put in (" ", "  ", " m", " 5", " A"):
                self.assert_fault(with_more(SIX, row, put), row, count, LOOSE)

    def test_most_below_least(self):
        self.assert_fault(with_word(GOOD, 0, 2, "3"), 0, 2)
        self.assert_fault(with_word(GOOD, 0, 1, "9"), 0, 2)
        self.assert_fault(with_word(GOOD, 3, 2, "4"), 3, 2)
        for least, most in (("4", "4"), ("4", "60"), ("60", "60")):
            good = with_word(with_word(GOOD, 0, 1, least), 0, 2, most)
            self.assertIsNone(refusal(read_stages, town(), good))

    def test_a_name_told_twice(self):
        self.assert_fault("stage 4 8 north turn north", 0, 5)
        self.assert_fault("stage 4 8 north north", 0, 4)
        self.assert_fault(with_more(GOOD, 1, " turn"), 1, 5)
        self.assert_fault(with_word(GOOD, 3, 3, "north"), 3, 3)
        self.assert_fault(with_word(GOOD, 0, 4, "zebra"), 3, 3)

    def test_a_tram_among_others_and_another_among_trams(self):
        self.assert_fault("stage 4 8 north line turn", 0, 4)
        self.assert_fault("stage 4 8 north turn line", 0, 5)
        self.assert_fault("stage 4 8 line north", 0, 4)
        self.assert_fault("stage 4 8 line zebra", 0, 4)
        self.assert_fault(SIX.replace("f i", "f a"), 3, 4, LOOSE)
        self.assert_fault(SIX.replace("f i", "f g"), 3, 4, LOOSE)
        self.assert_fault(SIX.replace("stage 1 1 a", "stage 1 1 a i"), 0, 4, LOOSE)

    def test_a_row_of_no_name(self):
        self.assert_fault("stage 4 8", 0, 3)
        self.assert_fault("stage 4 8 ", 0, 3)
        self.assert_fault(GOOD + "\nstage 4 8", 4, 3)

    def test_rows_without_signs(self):
        self.assert_fault("", 0, 0)
        self.assert_fault(GOOD + "\n", 4, 0)
        self.assert_fault("\n" + GOOD, 0, 0)
        self.assert_fault(SIX + "\n", 6, 0, LOOSE)

    def test_a_seventh_row(self):
        seven = SIX.replace(" h g", "")
        for row in ("stage 1 1 g", "stage 1 1 h g", "x", "stage"):
            self.assert_fault(seven + "\n" + row, 6, 0, LOOSE)

    def test_the_first_of_two_faults(self):
        for first in range(3):
            for word in range(4):
                self.assert_fault(with_word(with_word(GOOD, first, word, "?"), first + 1, 0, ""), first, word)
        self.assert_fault("stage 0 0 x", 0, 1)
        self.assert_fault("stage 1 0 x", 0, 2)

    def test_no_text_goes_ahead_of_the_other_refusals(self):
        self.assert_fault("stage 1 1 north east\nstage 1", 1, 2)


class Refusals(unittest.TestCase):
    def assert_clash(self, crossing, text):
        told = refusal(read_stages, crossing, text)
        self.assertEqual(told[0], Clash)
        row = text.split("\n")[told[1]["at"]].split(" ")
        self.assertIn(told[1]["way"], row[3:])
        self.assertIn(told[1]["other"], row[3:])
        self.assertNotEqual(told[1]["way"], told[1]["other"])
        self.assertTrue(meet(crossing, told[1]["way"], told[1]["other"]))
        return told[1]

    def test_never(self):
        rows = ["stage 4 8 turn", "stage 3 6 east", "stage 5 6 zebra", "stage 4 5 north", "stage 2 3 line"]
        self.assertEqual(refusal(read_stages, town(), "\n".join(rows)), (Never, {"way": "west"}))
        self.assertEqual(refusal(read_stages, town(), "\n".join(rows[:2])), (Never, {"way": "north"}))
        self.assertEqual(refusal(read_stages, town(), "\n".join(rows[2:])), (Never, {"way": "east"}))

    def test_short(self):
        self.assertEqual(refusal(read_stages, town(), GOOD.replace("stage 4 8", "stage 3 8")),
                         (Short, {"way": "north", "at": 0}))
        self.assertEqual(refusal(read_stages, town(), GOOD.replace("stage 3 6", "stage 2 6")),
                         (Short, {"way": "east", "at": 1}))
        self.assertEqual(refusal(read_stages, town(), GOOD.replace("stage 5 60", "stage 4 60")),
                         (Short, {"way": "zebra", "at": 3}))
        self.assertEqual(refusal(read_stages, town(), GOOD.replace("stage 2 3", "stage 1 3")),
                         (Short, {"way": "line", "at": 2}))
        first_of_all = "stage 1 3 zebra\nstage 1 3 line\nstage 1 3 west east\nstage 1 3 turn north"
        self.assertEqual(refusal(read_stages, town(), first_of_all), (Short, {"way": "north", "at": 3}))

    def test_clash(self):
        told = self.assert_clash(town(), "stage 4 8 turn\nstage 5 6 north east\nstage 2 3 line\nstage 5 60 zebra west")
        self.assertIn(told["at"], (1, 3))
        told = self.assert_clash(town(), "stage 4 8 north\nstage 5 6 turn east west\nstage 2 3 line\nstage 5 60 zebra")
        self.assertEqual((told["at"], sorted([told["way"], told["other"]])), (1, ["turn", "west"]))

    def test_the_order(self):
        self.assertEqual(refusal(read_stages, town(), "stage 1 1 turn west")[0], Never)
        clash_and_short = "stage 4 8 north\nstage 1 6 turn east west\nstage 2 3 line\nstage 5 60 zebra"
        self.assertEqual(refusal(read_stages, town(), clash_and_short), (Short, {"way": "east", "at": 1}))

    def test_what_is_refused_changes_nothing(self):
        crossing = town()
        for text in ("", GOOD + "\n", "stage 4 8 north turn", GOOD.replace("4 8", "1 8")):
            self.assertRaises(LampError, read_stages, crossing, text)
        self.assertEqual(crossing.names(), town().names())
        self.assertEqual(ways_in(read_stages(crossing, GOOD), 0), ["north", "turn"])

    def test_a_told_list_is_the_askers_own(self):
        stages = read_stages(town(), GOOD)
        told = ways_in(stages, 0)
        told.append("zebra")
        told[0] = "west"
        self.assertEqual(ways_in(stages, 0), ["north", "turn"])
        self.assertEqual(change(stages, 3, 0), change(read_stages(town(), GOOD), 3, 0))


class Changes(unittest.TestCase):
    def assert_change(self, wanted, ways, rows):
        crossing = read_crossing("ring 9\n" + "\n".join(ways))
        stages = read_stages(crossing, "\n".join([f"stage 1 1 {row}" for row in rows]))
        told = change(stages, 0, 1)
        self.assertIs(type(told), int)
        self.assertEqual(told, wanted)

    def test_0(self):
        self.assert_change(0, ["foot a 0 1 0 0 1", "foot b 2 3 9 0 1"], ["a", "b"])
        self.assert_change(0, ["foot a 0 4 0 0 1", "foot b 2 6 9 0 1"], ["a", "b"])

    def test_a_fade(self):
        self.assert_change(9, ["foot a 0 1 0 0 1", "foot b 2 3 9 0 1"], ["b", "a"])
        self.assert_change(2, ["car a 0 1 9 0 1", "foot b 2 3 9 0 1"], ["a", "b"])
        self.assert_change(1, ["tram a 0 1 9 0 1", "foot b 2 3 9 0 1"], ["a", "b"])
        self.assert_change(7, ["car a 0 1 9 0 1", "foot c 4 5 7 0 1", "foot b 2 3 9 0 1"], ["a c", "b"])

    def test_a_ready(self):
        self.assert_change(1, ["foot a 0 1 0 0 1", "car b 2 3 9 0 1"], ["a", "b"])
        self.assert_change(2, ["foot a 0 1 0 0 1", "tram b 2 3 9 0 1"], ["a", "b"])
        self.assert_change(2, ["tram a 0 1 0 0 1", "tram b 2 3 9 0 1"], ["a", "b"])

    def test_a_gap_from_the_first_stage(self):
        self.assert_change(5, ["car a 0 4 7 0 1", "car b 2 6 30 2 1"], ["a", "b"])
        self.assert_change(2, ["car a 0 4 7 0 1", "car b 2 6 30 6 1"], ["a", "b"])
        self.assert_change(2, ["car a 0 4 7 0 1", "car b 5 6 30 2 1"], ["a", "b"])

    def test_a_gap_from_a_third_stage(self):
        third = ["car a 0 1 0 0 1", "car b 2 6 30 2 1", "car c 4 8 11 2 1"]
        self.assert_change(9, third, ["a", "b", "c"])
        self.assert_change(9, third, ["a", "b", "c"])
        self.assert_change(2, third[:2] + ["car c 3 4 11 2 1"], ["a", "b", "c"])

    def test_a_gap_within_the_second_stage_does_not_count(self):
        # Ways of one stage never meet, so only those that stand elsewhere can count.
        self.assert_change(2, ["car a 0 1 9 0 1", "car b 2 3 30 0 1", "car c 4 5 30 0 1"], ["a", "b c"])

    def test_either_way_about(self):
        crossing = read_crossing("ring 9\ncar a 0 4 7 1 1\ncar b 2 6 30 2 1")
        stages = read_stages(crossing, "stage 1 1 a\nstage 1 1 b")
        self.assertEqual((change(stages, 0, 1), change(stages, 1, 0)), (5, 29))

    def test_drawn_plans(self):
        draw = drawing(8)
        for tries in range(200):
            stages = drawn_stages(draw)
            crossing = stages.crossing
            for one in range(stages.many):
                for other in range(stages.many):
                    if one == other:
                        continue
                    second = ways_in(stages, other)
                    wanted = max([0] + [crossing.called(name).fade() for name in ways_in(stages, one)]
                                 + [crossing.called(name).ready() for name in second]
                                 + [gap(crossing, name, to) for name in crossing.names() if name not in second
                                    for to in second if meet(crossing, name, to)])
                    self.assertEqual(change(stages, one, other), wanted)


if __name__ == "__main__":
    unittest.main()
