import unittest

from cases import TOWN, TWELVE, drawing, refusal, town
from lampway.crossings import read_crossing
from lampway.desk import Desk
from lampway.drawing import drawn
from lampway.errors import Clash, LampError, Never, NoName, NoRow, NoText, NoWay, Short
from lampway.keeper import Keeper
from lampway.looks import colours, longest, next_free
from lampway.plans import read_plan
from lampway.rounds import shortest
from lampway.stages import read_stages
from lampway.worst import worst

PLAN = "\n".join(["round 60", "free north 2 8", "free line 15 2", "free turn 22 3", "free east 22 3",
                  "free west 26 3", "free zebra 31 5", "free turn 50 4", "free turn 40 4"])
STAGES = "stage 4 8 north turn\nstage 3 6 east west\nstage 2 3 line\nstage 5 9 zebra"
SMALL = "ring 2\nfoot north 0 1 0 0 1"


def town_desk():
    desk = Desk()
    for row in (f"crossing town\n{TOWN}", f"plan day town\n{PLAN}", f"stages live town\n{STAGES}"):
        assert desk.say(row) == "ok"
    return desk


def colours_text(shown):
    return " ".join([name + " " + colour for name, colour in shown.items()])


class Answers(unittest.TestCase):
    def setUp(self):
        self.desk = town_desk()
        self.plan = read_plan(town(), PLAN)
        self.stages = read_stages(town(), STAGES)

    def assert_said(self, row, wanted):
        told = self.desk.say(row)
        self.assertIs(type(told), str)
        self.assertEqual(told, wanted, row)

    def test_texts(self):
        self.assert_said("crossing a\n" + TWELVE, "ok")
        self.assert_said("crossing abcdefgh\n" + SMALL, "ok")
        self.assert_said("plan abcdefgh town\n" + PLAN, "ok")
        self.assert_said("stages abcdefgh town\n" + STAGES, "ok")

    def test_colours(self):
        self.assert_said("colours day 2", "north free east stop turn stop zebra stop line stop west stop")
        for turn in list(range(0, 62)) + [10 ** 58, 10 ** 59 - 1]:
            self.assert_said(f"colours day {turn}", colours_text(colours(self.plan, turn)))

    def test_wait(self):
        self.assert_said("wait day north 2", "0")
        self.assert_said("wait day north 10", "52")
        for name in town().names():
            for turn in (0, 1, 30, 59, 60, 10 ** 59 - 1):
                self.assert_said(f"wait day {name} {turn}", str(next_free(self.plan, name, turn) - turn))

    def test_longest(self):
        self.assert_said("longest day north", "52 10")
        for name in town().names():
            wait, turn = longest(self.plan, name)
            self.assert_said(f"longest day {name}", f"{wait} {turn}")

    def test_draw(self):
        for turn in (0, 55, 10 ** 59 - 1):
            for many in (1, 2, 60, 200):
                rows = [colours(self.plan, turn + step) for step in range(many)]
                self.assert_said(f"draw day {turn} {many}", "\n".join(drawn(turn, rows)))

    def test_turn(self):
        keeper = Keeper(self.stages)
        draw = drawing(33)
        for turn in range(300):
            asks = [name for name in town().names() if draw.random() < 0.15] + draw.choice([[], ["west", "west"]])
            self.assert_said(" ".join(["turn", "live"] + asks), colours_text(keeper.pass_turn(asks)))

    def test_worst(self):
        for name in town().names():
            self.assert_said(f"worst live {name}", str(worst(self.stages, name)[0]))

    def test_shortest(self):
        names = town().names()
        for many in range(1, 6):
            wants = [(name, 7 * place + 1) for place, name in enumerate(names[:many])]
            words = " ".join([f"{name} {turns}" for name, turns in wants])
            self.assert_said(f"shortest town {words}", str(shortest(town(), wants)[0]))
        self.assert_said("shortest town north 60", str(shortest(town(), [("north", 60)])[0]))

    def test_asking_does_not_move_a_keeper(self):
        self.assert_said("worst live north", str(worst(self.stages, "north")[0]))
        keeper = Keeper(self.stages)
        self.assert_said("turn live west", colours_text(keeper.pass_turn(["west"])))
        self.desk.say("worst live zebra")
        for turn in range(12):
            self.assert_said("turn live", colours_text(keeper.pass_turn([])))


class Books(unittest.TestCase):
    def test_at_first_all_are_empty(self):
        for row, name in (("colours day 0", "day"), ("turn live", "live"), ("shortest town north 1", "town"),
                          (f"plan day town\n{PLAN}", "town")):
            self.assertEqual(refusal(Desk().say, row), (NoName, {"name": name}))

    def test_one_name_in_each_book(self):
        desk = Desk()
        for row in (f"crossing a\n{TOWN}", f"plan a a\n{PLAN}", f"stages a a\n{STAGES}"):
            self.assertEqual(desk.say(row), "ok")
        self.assertEqual(desk.say("wait a north 10"), "52")
        self.assertEqual(desk.say("turn a"), "north free east stop turn free zebra stop line stop west stop")
        self.assertEqual(desk.say("shortest a north 5"), "8")

    def test_a_name_told_anew(self):
        desk = town_desk()
        self.assertEqual(desk.say("plan day town\n" + PLAN.replace("round 60", "round 70")), "ok")
        self.assertEqual(desk.say("wait day north 10"), "62")
        for turn in range(6):
            desk.say("turn live west")
        self.assertEqual(desk.say(f"stages live town\n{STAGES}"), "ok")
        self.assertEqual(desk.say("turn live"), "north free east stop turn free zebra stop line stop west stop")

    def test_plans_and_keepers_go_on_with_their_crossing(self):
        desk, twin = town_desk(), town_desk()
        self.assertEqual(desk.say(f"crossing town\n{SMALL}"), "ok")
        for row in ["colours day 5", "wait day zebra 7", "longest day line", "draw day 7 9", "worst live west"] + [
                    "turn live west", "turn live", "turn live line zebra"] * 9:
            self.assertEqual(desk.say(row), twin.say(row))
        self.assertEqual(refusal(desk.say, "shortest town east 5"), (NoWay, {"name": "east"}))
        self.assertEqual(desk.say("shortest town north 5"), "5")
        self.assertEqual(refusal(desk.say, f"plan new town\n{PLAN}"), (NoText, {"row": 2, "word": 1}))
        self.assertEqual(desk.say("plan day town\nround 5\nfree north 1 2"), "ok")
        self.assertEqual(desk.say("colours day 1"), "north free")

    def test_two_desks(self):
        one, other = town_desk(), Desk()
        self.assertEqual(refusal(other.say, "colours day 0"), (NoName, {"name": "day"}))
        self.assertEqual(one.say("wait day north 10"), "52")


class Refusals(unittest.TestCase):
    def assert_refused(self, said, kind, **fields):
        told = refusal(self.desk.say, said)
        self.assertIsNotNone(told, said)
        self.assertEqual(told[0], kind, said)
        if fields:
            self.assertEqual(told[1], fields, said)

    def assert_no_row(self, row):
        self.assert_refused(row, NoRow)

    def setUp(self):
        self.desk = town_desk()

    # Of each row without a TEXT: its words, and of each word others that spoil it.
    def spoiled(self):
        name = ["", "A", "a1", "ninechars", "5", "-"]
        turn = ["", "x", "00", "01", "-1", "+1", "1.0", "1_0", "1" * 60, "0" * 59, "0" + "1" * 58]
        number = ["", "x", "0", "01", "-1", "1000", "1_0"]
        return [
            ("colours day 5", {1: name, 2: turn}),
            ("wait day north 5", {1: name, 2: name, 3: turn}),
            ("longest day north", {1: name, 2: name}),
            ("draw day 5 7", {1: name, 2: turn, 3: number + ["201"]}),
            ("turn live north west", {1: name, 2: name, 3: name}),
            ("worst live north", {1: name, 2: name}),
            ("shortest town north 5 west 6", {1: name, 2: name, 3: number + ["61"], 4: name + ["north"],
                                              5: number + ["61"]}),
        ]

    def test_each_word_spoiled(self):
        for row, spoils in self.spoiled():
            words = row.split(" ")
            self.desk.say(row)
            for word, puts in spoils.items():
                for put in puts:
                    self.assert_no_row(" ".join(words[:word] + [put] + words[word + 1:]))
            for first in ("", "x", words[0] + "s" if words[0] != "colours" else "colour", words[0].upper(), "0"):
                self.assert_no_row(" ".join([first] + words[1:]))

    def test_words_too_few(self):
        for row, spoils in self.spoiled():
            words = row.split(" ")
            least = {"turn": 2, "shortest": 4}.get(words[0], len(words))
            for many in range(1, least):
                self.assert_no_row(" ".join(words[:many]))
        self.assert_no_row("shortest town north 5 west")
        self.assert_no_row("")
        self.assert_no_row("\n")

    def test_words_too_many(self):
        for row, spoils in self.spoiled():
            self.assert_no_row(row + " ")
            self.assert_no_row(" " + row)
            self.assert_no_row(row.replace(" ", "  ", 1))
            if row.split(" ")[0] not in ("turn", "shortest"):
                self.assert_no_row(row + " north")
                self.assert_no_row(row + " 5")
        self.assert_no_row("shortest town a 1 b 1 c 1 d 1 e 1 f 1")
        self.assert_refused("shortest town a 1 b 1 c 1 d 1 e 1", NoWay, name="a")

    def test_a_text_where_none_is_told(self):
        for row, spoils in self.spoiled():
            for text in ("\n", "\n" + TOWN, "\n\n", "\nx"):
                self.assert_no_row(row + text)

    def test_no_text_where_one_is_told(self):
        for row in ("crossing new", "plan new town", "stages new town"):
            self.assert_no_row(row)
            self.assert_refused(row + "\n", NoText, row=0, word=0)

    def test_the_words_of_rows_with_a_text(self):
        for bad in ("", "A", "a1", "ninechars", "5"):
            self.assert_no_row(f"crossing {bad}\n{TOWN}")
            self.assert_no_row(f"plan {bad} town\n{PLAN}")
            self.assert_no_row(f"plan new {bad}\n{PLAN}")
            self.assert_no_row(f"stages {bad} town\n{STAGES}")
            self.assert_no_row(f"stages new {bad}\n{STAGES}")
        for row in ("crossing", "crossing new town", "crossing new ", "plan", "plan new", "plan new town more",
                    "stages", "stages new", "stages new town more", "crossings new", "Plan new town", "stage new town"):
            self.assert_no_row(f"{row}\n{TOWN}")

    def test_turn_words(self):
        for turn in ("0", "9", "10", "1" * 59, "9" * 59):
            self.desk.say(f"colours day {turn}")
            self.desk.say(f"wait day north {turn}")
            self.desk.say(f"draw day {turn} 1")
        for turn in ("1" * 60, "9" * 60, "0" * 2, "07", "0" + "9" * 58):
            self.assert_no_row(f"colours day {turn}")
            self.assert_no_row(f"wait day north {turn}")
            self.assert_no_row(f"draw day {turn} 1")

    def test_bounds_of_numbers(self):
        for many in ("1", "200"):
            self.desk.say(f"draw day 0 {many}")
        for turns in ("1", "60"):
            self.desk.say(f"shortest town north {turns}")

    def test_names_that_the_book_lacks(self):
        for row in ("colours live 5", "wait town north 5", "longest no north", "draw no 5 7", "turn day north",
                    "worst town north", "shortest day north 5", f"plan new day\n{PLAN}", f"stages new live\n{STAGES}"):
            words = row.split("\n")[0].split(" ")
            lacked = words[2] if words[0] in ("plan", "stages") else words[1]
            self.assert_refused(row, NoName, name=lacked)

    def test_the_order_of_the_refusals(self):
        self.assert_no_row("wait no no x")
        self.assert_refused("wait no no 5", NoName, name="no")
        self.assert_refused("wait day no 5", NoWay, name="no")
        self.assert_no_row("shortest no no 5 no 5")
        self.assert_refused("shortest no no 5", NoName, name="no")
        self.assert_refused("shortest town north 5 no 5 nor 5", NoWay, name="no")
        self.assert_no_row("plan new no more\nx")
        self.assert_refused("plan new no\nx", NoName, name="no")
        self.assert_refused("plan new town\nx", NoText, row=0, word=0)
        self.assert_refused("turn no no", NoName, name="no")
        self.assert_refused("turn live no nor", NoWay, name="no")
        self.assert_refused("worst live no", NoWay, name="no")
        self.assert_refused("longest day no", NoWay, name="no")

    def test_what_the_functions_refuse(self):
        self.assert_refused("crossing new\nring 8", NoText, row=1, word=0)
        self.assert_refused("plan new town\nround 60", Never, way="north")
        self.assert_refused("plan new town\n" + PLAN.replace("north 2 8", "north 2 3"), Short, way="north", at=2)
        self.assert_refused("plan new town\n" + PLAN.replace("zebra 31", "zebra 30"), Clash)
        self.assert_refused("stages new town\nstage 4 8 north", Never, way="east")
        self.assert_refused("stages new town\n" + STAGES.replace("4 8", "3 8"), Short, way="north", at=0)

    def test_what_is_refused_changes_nothing(self):
        twin = town_desk()
        bad = ["", "turn live no", "turn live west no", "turn live west\n", "crossing town\nx", "plan day town\nround 60",
               "plan day no\n" + PLAN, "stages live town\nstage 1 1 north", "stages live no\n" + STAGES,
               "crossing town more\n" + SMALL, "plan new town\nround 60", "turn live west West"]
        good = ["turn live west", "colours day 7", "wait day zebra 9", "turn live", "worst live east", "turn live line",
                "shortest town north 9 east 9", "draw day 3 4"]
        for step in range(40):
            for row in bad:
                self.assertRaises(LampError, self.desk.say, row)
            row = good[step % len(good)]
            self.assertEqual(self.desk.say(row), twin.say(row))
        self.assert_refused("colours new 0", NoName, name="new")


class Whole(unittest.TestCase):
    def test_a_crossing_through_the_desk_is_the_one_read(self):
        desk = Desk()
        desk.say(f"crossing a\n{TWELVE}")
        crossing = read_crossing(TWELVE)
        wants = [("a", 5), ("bb", 7), ("ccc", 60)]
        self.assertEqual(desk.say("shortest a a 5 bb 7 ccc 60"), str(shortest(crossing, wants)[0]))


if __name__ == "__main__":
    unittest.main()
