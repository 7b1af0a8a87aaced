import unittest

from cases import Nearness, drawing, drawn_staging, town
from lampway.colours import in_order
from lampway.crossings import read_crossing
from lampway.errors import NoWay
from lampway.keeper import Keeper
from lampway.stages import change, read_stages
from model import Model

GOOD = "stage 4 8 north turn\nstage 3 6 east west\nstage 2 3 line\nstage 5 9 zebra"
# Feet who are off at once, a tram or two: nothing meets, changes have no turns but for a tram's ready and fade.
SWIFT = ["foot a 0 1 0 0 1", "foot b 2 3 0 0 1", "foot c 4 5 0 0 1", "foot d 6 7 0 0 1"]
TRAMS = ["tram x 8 9 0 0 1", "tram y 10 11 0 0 1", "tram z 12 13 0 0 1"]


def town_keeper():
    return Keeper(read_stages(town(), GOOD))


def keeper_of(ways, *rows):
    return Keeper(read_stages(read_crossing("ring 20\n" + "\n".join(ways)), "\n".join(rows)))


def stages_of(keeper, asks):
    """The stages shown turn by turn, by a row of asks, each the text of its names."""
    found = []
    for names in asks:
        found.append(keeper.stage())
        keeper.pass_turn(names.split())
    return found + [keeper.stage()]


def shown_stages(keeper, asks):
    """The stages in the order in which they come, changes and repeats left out."""
    found = []
    for stage in stages_of(keeper, asks):
        if stage is not None and (not found or found[-1] != stage):
            found.append(stage)
    return found


class Turns(unittest.TestCase):
    def test_turn_0(self):
        keeper = town_keeper()
        self.assertEqual(keeper.stage(), 0)
        self.assertEqual(keeper.waits(), [])
        wanted = [("north", "free"), ("east", "stop"), ("turn", "free"), ("zebra", "stop"), ("line", "stop"),
                  ("west", "stop")]
        self.assertEqual(list(keeper.shown().items()), wanted)
        self.assertEqual(list(keeper.pass_turn([]).items()), wanted)

    def test_nobody_waits_and_the_stage_stays(self):
        keeper = town_keeper()
        self.assertEqual(stages_of(keeper, [""] * 100), [0] * 101)
        self.assertEqual(stages_of(keeper, ["north turn north"] * 50), [0] * 51)
        self.assertEqual(keeper.waits(), [])

    def test_an_ask_in_a_free_turn_and_in_another(self):
        keeper = town_keeper()
        keeper.pass_turn(["turn"])
        self.assertEqual(keeper.waits(), [])
        keeper.pass_turn(["west", "turn", "east", "west"])
        self.assertEqual(keeper.waits(), ["east", "west"])
        keeper.pass_turn(["zebra"])
        self.assertEqual(keeper.waits(), ["east", "zebra", "west"])

    def test_one_waits_until_it_is_free(self):
        keeper = town_keeper()
        waits = []
        for turn in range(12):
            keeper.pass_turn(["west"] if turn == 1 else [])
            waits.append((keeper.stage(), keeper.waits()))
        # North and turn fade for 2 turns, but zebra's gap to west is 5.
        self.assertEqual(waits, [(0, [])] + [(0, ["west"])] * 2 + [(None, ["west"])] * 5 + [(1, [])] * 4)

    def test_a_way_that_is_asked_in_the_change_waits_for_the_next_time(self):
        keeper = town_keeper()
        for turn in range(4):
            keeper.pass_turn(["east"] if turn == 0 else [])
        self.assertIsNone(keeper.stage())
        keeper.pass_turn(["north", "east"])
        self.assertEqual(keeper.waits(), ["north", "east"])
        while keeper.stage() is None:
            keeper.pass_turn([])
        self.assertEqual((keeper.stage(), keeper.waits()), (1, ["north"]))

    def test_an_ask_in_the_last_turn_of_a_change(self):
        keeper = town_keeper()
        for turn in range(8):
            keeper.pass_turn(["east"] if turn == 0 else [])
        self.assertIsNone(keeper.stage())
        keeper.pass_turn(["west"])
        self.assertEqual((keeper.stage(), keeper.waits()), (1, []))

    def test_the_colours_turn_by_turn_in_a_change(self):
        keeper = town_keeper()
        rows = [keeper.pass_turn(["zebra"] if turn == 3 else []) for turn in range(14)]
        self.assertEqual(change(keeper.stages, 0, 3), 4)

        def shown(name):
            return "".join([{"stop": ".", "ready": ":", "free": "|", "fade": "~"}[row[name]] for row in rows])
        self.assertEqual(shown("north"), "||||~~........")
        self.assertEqual(shown("turn"), "||||~~........")
        self.assertEqual(shown("zebra"), "........||||||")
        self.assertEqual(shown("line"), "." * 14)
        rows = [keeper.pass_turn(["line"]) for turn in range(10)]
        self.assertEqual(shown("zebra"), "|~~~~~~...")
        self.assertEqual(shown("line"), ".....::|||")
        rows = [keeper.pass_turn(["east"]) for turn in range(10)]
        self.assertEqual(shown("line"), "|~........")
        self.assertEqual(shown("east"), ".....:||||")
        self.assertEqual(shown("west"), ".....:||||")

    def test_fade_and_ready_side_by_side(self):
        keeper = keeper_of(["car a 0 1 0 0 1", "tram x 2 3 0 0 1"], "stage 1 1 a", "stage 1 1 x")
        rows = [keeper.pass_turn(["x"]) for turn in range(4)]
        self.assertEqual([row["a"] for row in rows], ["free", "fade", "fade", "stop"])
        self.assertEqual([row["x"] for row in rows], ["stop", "ready", "ready", "free"])


class Staying(unittest.TestCase):
    def test_below_least(self):
        for least in (1, 2, 7):
            keeper = keeper_of(SWIFT[:2], f"stage {least} 9 a", "stage 1 1 b")
            self.assertEqual(stages_of(keeper, ["b"] * least), [0] * least + [1])

    def test_own_asks_below_most(self):
        for most in (3, 4, 9):
            keeper = keeper_of(SWIFT[:2], f"stage 3 {most} a", "stage 1 1 b")
            self.assertEqual(stages_of(keeper, ["a b"] * most), [0] * most + [1])

    def test_own_asks_that_end(self):
        keeper = keeper_of(SWIFT[:2], "stage 3 9 a", "stage 1 1 b")
        self.assertEqual(stages_of(keeper, ["b", "", "a", "a", "", ""]), [0, 0, 0, 0, 0, 1, 1])

    def test_an_own_ask_by_another_way_of_the_stage(self):
        keeper = keeper_of(SWIFT[:3], "stage 1 3 a c", "stage 1 1 b")
        self.assertEqual(stages_of(keeper, ["b a", "c", "a c", ""]), [0, 0, 0, 1, 1])

    def test_behind_most_as_soon_as_one_waits(self):
        keeper = keeper_of(SWIFT[:2], "stage 2 4 a", "stage 1 1 b")
        self.assertEqual(stages_of(keeper, ["a"] * 9 + ["a b", ""]), [0] * 10 + [1, 1])

    def test_no_longer_where_a_tram_waits(self):
        keeper = keeper_of(SWIFT[:2] + TRAMS[:1], "stage 3 9 a", "stage 1 1 b", "stage 1 1 x")
        self.assertEqual(stages_of(keeper, ["a x", "a", "a", "a", "a"]), [0, 0, 0, None, None, 2])
        keeper = keeper_of(SWIFT[:2] + TRAMS[:1], "stage 3 9 a", "stage 1 1 b", "stage 1 1 x")
        self.assertEqual(stages_of(keeper, ["a b"] * 5 + ["a x"]), [0] * 6 + [None])

    def test_a_stage_of_trams_and_another_tram_that_waits(self):
        keeper = keeper_of(TRAMS[:2] + SWIFT[:1], "stage 2 9 x", "stage 1 1 y", "stage 1 1 a")
        self.assertEqual(stages_of(keeper, ["x a"] * 5), [0] * 6)
        self.assertEqual(stages_of(keeper, ["x y"]), [0, None])

    def test_a_change_of_no_turns(self):
        keeper = keeper_of(SWIFT[:2], "stage 1 1 a", "stage 1 1 b")
        rows = [keeper.pass_turn(["a", "b"]) for turn in range(6)]
        self.assertEqual([row["a"] for row in rows], ["free", "stop"] * 3)
        self.assertEqual([row["b"] for row in rows], ["stop", "free"] * 3)

    def test_a_plan_of_one_stage(self):
        keeper = keeper_of(SWIFT[:2], "stage 1 1 a b")
        self.assertEqual(stages_of(keeper, ["a b", "b", ""] * 5), [0] * 16)


class Picking(unittest.TestCase):
    def test_of_one_sort_counting_up(self):
        rows = [f"stage 1 1 {name}" for name in "abcd"]
        self.assertEqual(stages_of(keeper_of(SWIFT, *rows), ["a b c d"] * 9), [0, 1, 2, 3, 0, 1, 2, 3, 0, 1])
        self.assertEqual(stages_of(keeper_of(SWIFT, *rows), ["d", "c a", "", "b", ""]), [0, 3, 0, 2, 1, 1])
        self.assertEqual(stages_of(keeper_of(SWIFT, *rows), ["d c", "a", "a", ""]), [0, 2, 3, 0, 0])
        self.assertEqual(stages_of(keeper_of(SWIFT, *rows), ["c", "b a", "", ""]), [0, 2, 0, 1, 1])

    def test_the_other_sort_goes_ahead(self):
        keeper = keeper_of(SWIFT + TRAMS[:1], "stage 1 1 a", "stage 1 1 b", "stage 1 1 c", "stage 1 1 x", "stage 1 1 d")
        self.assertEqual(shown_stages(keeper, ["b c d x"] + [""] * 12), [0, 3, 1, 2, 4])

    def test_two_stages_of_trams_do_not_follow_while_others_wait(self):
        rows = ["stage 1 1 a", "stage 1 1 b", "stage 1 1 x", "stage 1 1 y", "stage 1 1 z"]
        keeper = keeper_of(SWIFT[:2] + TRAMS, *rows)
        self.assertEqual(shown_stages(keeper, ["b x y z"] + ["a b x y z"] * 30)[:9], [0, 2, 1, 3, 0, 4, 1, 2, 0])
        keeper = keeper_of(SWIFT[:2] + TRAMS, *rows)
        self.assertEqual(shown_stages(keeper, ["x y z"] + [""] * 30), [0, 2, 3, 4])

    def test_the_other_sort_is_counted_from_0_at_the_beginning(self):
        keeper = keeper_of(SWIFT[:1] + TRAMS, "stage 1 1 a", "stage 1 1 x", "stage 1 1 y", "stage 1 1 z")
        self.assertEqual(shown_stages(keeper, ["z y x"] + [""] * 30), [0, 1, 2, 3])
        keeper = keeper_of(TRAMS[:1] + SWIFT[:3], "stage 1 1 x", "stage 1 1 a", "stage 1 1 b", "stage 1 1 c")
        self.assertEqual(shown_stages(keeper, ["c b a"] + [""] * 30), [0, 1, 2, 3])

    def test_counting_goes_on_behind_the_last_one_of_that_sort(self):
        rows = ["stage 1 1 a", "stage 1 1 x", "stage 1 1 b", "stage 1 1 y", "stage 1 1 c", "stage 1 1 z"]
        keeper = keeper_of(SWIFT[:3] + TRAMS, *rows)
        asks = ["y"] + ["b"] * 5 + ["x z"] + ["a c"] * 4 + [""] * 20
        self.assertEqual(shown_stages(keeper, asks), [0, 3, 2, 5, 4, 1, 0])

    def test_stage_0_counts_as_picked(self):
        keeper = keeper_of(SWIFT[:3] + TRAMS[:1], "stage 1 1 a", "stage 1 1 b", "stage 1 1 c", "stage 1 1 x")
        self.assertEqual(shown_stages(keeper, ["x"] + ["a c b"] * 12)[:4], [0, 3, 1, 2])

    def test_the_last_one_itself_at_the_end(self):
        keeper = keeper_of(SWIFT[:2] + TRAMS[:1], "stage 1 1 a", "stage 1 1 b", "stage 1 1 x")
        self.assertEqual(shown_stages(keeper, ["x", "a", "a", "a"] + [""] * 8), [0, 2, 0])
        keeper = keeper_of(SWIFT[:2] + TRAMS[:1], "stage 1 1 a", "stage 1 1 b", "stage 1 1 x")
        self.assertEqual(shown_stages(keeper, ["x", "a", "a b", "a"] + [""] * 8), [0, 2, 1, 0])


class Names(unittest.TestCase):
    def test_a_name_that_is_no_ways_changes_nothing(self):
        keeper, twin = town_keeper(), town_keeper()
        draw = drawing(9)
        for turn in range(300):
            asks = [name for name in town().names() if draw.random() < 0.15]
            for bad, name in ((["no"], "no"), (asks + ["zebra", "no", "nor"], "no"), (["", "no"] + asks, "")):
                with self.assertRaises(NoWay) as taken:
                    keeper.pass_turn(bad)
                self.assertEqual(taken.exception.name, name)
            self.assertEqual((keeper.stage(), keeper.waits(), keeper.shown()),
                             (twin.stage(), twin.waits(), twin.shown()))
            self.assertEqual(keeper.pass_turn(asks), twin.pass_turn(asks))

    def test_what_is_told_is_the_askers_own(self):
        keeper = town_keeper()
        asks = ["west"]
        told = keeper.pass_turn(asks)
        kept = dict(told)
        waits, shown = keeper.waits(), keeper.shown()
        asks.append("zebra")
        told.clear()
        waits.append("line")
        shown["north"] = "stop"
        self.assertEqual(keeper.waits(), ["west"])
        self.assertEqual(keeper.shown(), kept)
        later = keeper.shown()
        for turn in range(20):
            keeper.pass_turn([])
        self.assertEqual(later, kept)

    def test_two_keepers_of_one_plan(self):
        stages = read_stages(town(), GOOD)
        one, other = Keeper(stages), Keeper(stages)
        for turn in range(12):
            one.pass_turn(["west", "line"])
        self.assertEqual((other.stage(), other.waits()), (0, []))


class Promise(unittest.TestCase):
    def hold(self, crossing, text, draw, turns):
        keeper, model, nearness = Keeper(read_stages(crossing, text)), Model(crossing, text), Nearness(crossing)
        state, rows, often = model.first, [], draw.choice([0.02, 0.1, 0.4, 0.9])
        for turn in range(turns):
            asks = [name for name in crossing.names() if draw.random() < often]
            draw.shuffle(asks)
            self.assertEqual(keeper.stage(), state[0])
            self.assertEqual(keeper.waits(), [name for name in crossing.names() if name in state[5]])
            shown = keeper.shown()
            told = keeper.pass_turn(asks)
            self.assertEqual(list(told.items()), list(model.colours(state).items()))
            self.assertEqual(list(shown.items()), list(told.items()))
            self.assertEqual(nearness.too_near(told), [])
            rows.append(told)
            state = model.step(state, asks)
        for name in crossing.names():
            self.assertIs(in_order(crossing.called(name), [row[name] for row in rows]), True)

    def test_drawn_plans_and_asks(self):
        draw = drawing(10)
        for tries in range(250):
            crossing, text = drawn_staging(draw, most_ways=draw.choice([3, 6, 8]), most_turns=draw.choice([0, 3, 6]))
            self.hold(crossing, text, draw, 250)

    def test_feet_alone_and_trams_alone(self):
        draw = drawing(11)
        for sorts in (("foot",), ("tram",), ("foot", "tram")):
            for tries in range(25):
                crossing, text = drawn_staging(draw, sorts=sorts, most_turns=2)
                self.hold(crossing, text, draw, 250)

    def test_many_turns(self):
        draw = drawing(12)
        self.hold(town(), GOOD, draw, 20000)


if __name__ == "__main__":
    unittest.main()
