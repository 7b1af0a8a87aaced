import unittest

from cases import Nearness, drawing, drawn_plan, refusal, town
from lampway.colours import in_order
from lampway.crossings import read_crossing
from lampway.errors import NoWay
from lampway.looks import colour, colours, free, longest, next_free
from lampway.plans import made_plan, read_plan, written

LOOSE = read_crossing("ring 9\ncar car 0 1 5 0 3\ntram tram 2 3 5 0 2\nfoot foot 4 5 4 0 3\nfoot swift 6 7 0 0 2")
TOWN_PLAN = "\n".join(["round 60", "free north 2 8", "free line 15 2", "free turn 22 3", "free east 22 3",
                       "free west 26 3", "free zebra 31 5", "free turn 50 4", "free turn 40 4"])
FAR = (0, 20, 20 * 10 ** 58, 10 ** 59 - 10 ** 59 % 20, 10 ** 60 - 10 ** 60 % 20 - 20)


def plan_of(size, name, *spans):
    rows = [(name, begin, turns) for begin, turns in spans]
    return made_plan(LOOSE, size, rows + [(other, 0, 3) for other in LOOSE.names() if other != name])


def told_free(plan_rows, size, name, turn):
    return any([called == name and (turn - begin) % size < turns for called, begin, turns in plan_rows])


class Colours(unittest.TestCase):
    def assert_round(self, plan, name, signs):
        """The colours of a whole round, by their first sign (fade: d), at turns near and far."""
        wanted = [{"s": "stop", "r": "ready", "f": "free", "d": "fade"}[sign] for sign in signs]
        self.assertEqual(len(wanted), plan.size)
        for far in FAR:
            self.assertEqual([colour(plan, name, far + turn) for turn in range(plan.size)], wanted)
            self.assertEqual([free(plan, name, far + turn) for turn in range(plan.size)],
                             [shown == "free" for shown in wanted])

    def test_a_car(self):
        self.assert_round(plan_of(20, "car", (5, 4)), "car", "ssssrffffddsssssssss")
        self.assert_round(plan_of(20, "car", (18, 4)), "car", "ffddsssssssssssssrff")
        self.assert_round(plan_of(20, "car", (0, 3)), "car", "fffddssssssssssssssr")
        self.assert_round(plan_of(20, "car", (17, 3)), "car", "ddssssssssssssssrfff")
        self.assert_round(plan_of(20, "car", (16, 3)), "car", "dssssssssssssssrfffd")

    def test_a_tram(self):
        self.assert_round(plan_of(20, "tram", (5, 4)), "tram", "sssrrffffdssssssssss")
        self.assert_round(plan_of(20, "tram", (1, 2)), "tram", "rffdsssssssssssssssr")
        self.assert_round(plan_of(20, "tram", (18, 2)), "tram", "dsssssssssssssssrrff")

    def test_feet(self):
        self.assert_round(plan_of(20, "foot", (5, 4)), "foot", "sssssffffddddsssssss")
        self.assert_round(plan_of(20, "foot", (15, 3)), "foot", "ddsssssssssssssfffdd")
        self.assert_round(plan_of(20, "swift", (5, 4)), "swift", "sssssffffsssssssssss")
        self.assert_round(plan_of(20, "swift", (5, 20)), "swift", "f" * 20)

    def test_two_and_three_spans(self):
        self.assert_round(plan_of(20, "car", (2, 3), (8, 3)), "car", "srfffddrfffddsssssss")
        self.assert_round(plan_of(20, "car", (15, 3), (1, 3), (8, 3)), "car", "rfffddsrfffddsrfffdd")
        self.assert_round(plan_of(20, "swift", (3, 4), (7, 5)), "swift", "sssfffffffffssssssss")

    def test_a_round_without_stop(self):
        self.assert_round(plan_of(20, "car", (4, 17)), "car", "fddrffffffffffffffff")

    def test_kinds(self):
        plan = read_plan(town(), TOWN_PLAN)
        self.assertIs(free(plan, "north", 2), True)
        self.assertIs(free(plan, "north", 1), False)
        self.assertIs(type(colour(plan, "north", 2)), str)
        self.assertIs(type(next_free(plan, "north", 3)), int)
        self.assertIs(type(longest(plan, "north")), tuple)

    def test_dicts_in_the_crossings_order(self):
        plan = read_plan(town(), TOWN_PLAN)
        for turn in list(range(70)) + [10 ** 59 + 7, 10 ** 60]:
            told = colours(plan, turn)
            self.assertIs(type(told), dict)
            self.assertEqual(list(told.items()), [(name, colour(plan, name, turn)) for name in town().names()])

    def test_a_told_dict_is_the_askers_own(self):
        plan = read_plan(town(), TOWN_PLAN)
        told = colours(plan, 5)
        kept = dict(told)
        second = colours(plan, 5)
        told["north"] = "fade"
        told["more"] = "stop"
        self.assertEqual(second, kept)
        self.assertEqual(list(colours(plan, 5).items()), list(kept.items()))

    def test_drawn_plans_show_what_point_14_tells(self):
        draw = drawing(5)
        for tries in range(150):
            plan = drawn_plan(draw)
            rows = [row.split(" ") for row in written(plan).split("\n")[1:]]
            spans = [(row[1], int(row[2]), int(row[3])) for row in rows]
            for name in plan.crossing.names():
                way = plan.crossing.called(name)
                for turn in range(plan.size):
                    shown = "stop"
                    if any([told_free(spans, plan.size, name, turn + step) for step in range(1, way.ready() + 1)]):
                        shown = "ready"
                    if any([told_free(spans, plan.size, name, turn - step) for step in range(1, way.fade() + 1)]):
                        shown = "fade"
                    if told_free(spans, plan.size, name, turn):
                        shown = "free"
                    self.assertEqual(colour(plan, name, turn), shown)


class Waits(unittest.TestCase):
    def test_next_free_from_each_turn(self):
        plan = plan_of(20, "car", (5, 4))
        for far in FAR:
            for turn in range(20):
                wanted = turn if 5 <= turn < 9 else 5 if turn < 5 else 25
                self.assertEqual(next_free(plan, "car", far + turn), far + wanted)

    def test_next_free_round_the_end(self):
        plan = plan_of(20, "tram", (18, 4))
        self.assertEqual([next_free(plan, "tram", turn) for turn in range(20)], [0, 1] + [18] * 17 + [19])

    def test_next_free_of_a_way_free_all_round(self):
        plan = plan_of(20, "swift", (9, 20))
        for turn in (0, 1, 19, 10 ** 59, 10 ** 60):
            self.assertEqual(next_free(plan, "swift", turn), turn)

    def test_longest(self):
        self.assertEqual(longest(plan_of(20, "car", (5, 4)), "car"), (16, 9))
        self.assertEqual(longest(plan_of(20, "car", (16, 4)), "car"), (16, 0))
        self.assertEqual(longest(plan_of(20, "tram", (18, 4)), "tram"), (16, 2))
        self.assertEqual(longest(plan_of(20, "car", (15, 4)), "car"), (16, 19))
        self.assertEqual(longest(plan_of(20, "swift", (9, 20)), "swift"), (0, 0))

    def test_longest_has_the_least_turn(self):
        self.assertEqual(longest(plan_of(20, "car", (3, 4), (13, 4)), "car"), (6, 7))
        self.assertEqual(longest(plan_of(20, "car", (8, 4), (18, 4)), "car"), (6, 2))
        self.assertEqual(longest(plan_of(24, "car", (0, 3), (8, 4), (16, 3)), "car"), (5, 3))

    def test_drawn_plans_by_going_turn_by_turn(self):
        draw = drawing(6)
        for tries in range(150):
            plan = drawn_plan(draw)
            for name in plan.crossing.names():
                waits = []
                for turn in range(plan.size):
                    later = turn
                    while not free(plan, name, later):
                        later += 1
                    waits.append(later - turn)
                    self.assertEqual(next_free(plan, name, turn), later)
                    self.assertEqual(next_free(plan, name, turn + 10 ** 58 * plan.size), later + 10 ** 58 * plan.size)
                self.assertEqual(longest(plan, name), (max(waits), waits.index(max(waits))))


class Promise(unittest.TestCase):
    def test_drawn_plans_hold_the_promise(self):
        draw = drawing(7)
        for tries in range(250):
            plan = drawn_plan(draw)
            rows = [colours(plan, turn) for turn in range(plan.size * (2 + 60 // plan.size))]
            nearness = Nearness(plan.crossing)
            for row in rows:
                self.assertEqual(nearness.too_near(row), [])
            for name in plan.crossing.names():
                self.assertIs(in_order(plan.crossing.called(name), [row[name] for row in rows]), True)


class Names(unittest.TestCase):
    def test_names_that_are_no_ways(self):
        plan = read_plan(town(), TOWN_PLAN)
        for name in ("", "nort", "North", "a"):
            wanted = (NoWay, {"name": name})
            self.assertEqual(refusal(free, plan, name, 0), wanted)
            self.assertEqual(refusal(colour, plan, name, 0), wanted)
            self.assertEqual(refusal(next_free, plan, name, 10 ** 59), wanted)
            self.assertEqual(refusal(longest, plan, name), wanted)


if __name__ == "__main__":
    unittest.main()
