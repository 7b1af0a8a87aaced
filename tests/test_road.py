import unittest

from cases import Nearness, drawing, drawn_stages, town
from lampway.crossings import read_crossing
from lampway.errors import NoWay
from lampway.keeper import Keeper
from lampway.road import Road
from lampway.stages import read_stages
from lampway.worst import worst

GOOD = "stage 4 8 north turn\nstage 3 6 east west\nstage 2 3 line\nstage 5 9 zebra"


def town_road():
    return Road(read_stages(town(), GOOD))


def swift_road():
    """A car and feet side by side, then a tram; nothing meets."""
    crossing = read_crossing("ring 9\ncar a 0 1 0 0 1\nfoot b 2 3 0 0 1\ntram x 4 5 0 0 1")
    return Road(read_stages(crossing, "stage 2 4 b a\nstage 1 1 x"))


class Roads(unittest.TestCase):
    def test_turn_0(self):
        road = town_road()
        self.assertEqual(list(road.queues().items()), [(name, 0) for name in town().names()])
        self.assertEqual(list(road.shown().items()), list(Keeper(read_stages(town(), GOOD)).shown().items()))
        self.assertEqual(road.pass_turn({}), [])

    def test_one_car_goes_and_all_feet(self):
        road = swift_road()
        self.assertEqual(road.pass_turn({"b": 5, "a": 3}), [("a", 0, 1), ("b", 0, 5)])
        self.assertEqual(road.queues(), {"a": 2, "b": 0, "x": 0})
        self.assertEqual(road.pass_turn({"a": 1, "b": 0}), [("a", 0, 1)])
        self.assertEqual(road.pass_turn({"b": 10 ** 9}), [("a", 0, 1), ("b", 2, 10 ** 9)])
        self.assertEqual(road.pass_turn({}), [("a", 1, 1)])
        self.assertEqual(road.pass_turn({}), [])

    def test_those_first_who_came_first(self):
        road = swift_road()
        road.pass_turn({"x": 1, "b": 1})
        told = [road.pass_turn({"b": turn, "a": 2}) for turn in (1, 2, 3, 4)]
        self.assertEqual(told, [[("a", 1, 1), ("b", 1, 1)], [], [], [("x", 0, 1)]])
        self.assertEqual(road.queues(), {"a": 7, "b": 9, "x": 0})
        told = [road.pass_turn({"b": 7}) for turn in range(3)]
        self.assertEqual(told, [[], [("a", 1, 1), ("b", 2, 2), ("b", 3, 3), ("b", 4, 4), ("b", 5, 7), ("b", 6, 7)],
                                [("a", 2, 1), ("b", 7, 7)]])
        self.assertEqual([road.pass_turn({}) for turn in range(3)], [[("a", 2, 1)], [("a", 3, 1)], [("a", 3, 1)]])

    def test_those_who_stand_ask(self):
        road = swift_road()
        road.pass_turn({"a": 100, "x": 1})
        # The tram waits, so the first stage is left behind its LEAST, though cars stand there.
        self.assertEqual([list(road.pass_turn({"a": 1})) for turn in range(4)],
                         [[("a", 0, 1)], [], [], [("x", 0, 1)]])

    def test_a_name_that_is_no_ways_changes_nothing(self):
        road, twin = town_road(), town_road()
        draw = drawing(17)
        for turn in range(300):
            comings = {name: draw.randint(0, 2) for name in town().names() if draw.random() < 0.3}
            for bad, name in (({"no": 1}, "no"), ({"north": 3, "no": 0, "nor": 1}, "no"), ({"": 1, **comings}, "")):
                with self.assertRaises(NoWay) as taken:
                    road.pass_turn(bad)
                self.assertEqual(taken.exception.name, name)
            self.assertEqual((road.queues(), road.shown()), (twin.queues(), twin.shown()))
            self.assertEqual(road.pass_turn(comings), twin.pass_turn(comings))

    def test_what_is_told_is_the_askers_own(self):
        road = town_road()
        comings = {"west": 3}
        road.pass_turn(comings)
        comings["west"] = 9
        told = road.queues()
        told["west"] = 7
        road.shown().clear()
        self.assertEqual(road.queues()["west"], 3)
        self.assertEqual(list(road.shown()), town().names())
        went = road.pass_turn({"turn": 1})
        went.clear()
        self.assertEqual(road.pass_turn({"north": 2}), [("north", 2, 1)])


class Promise(unittest.TestCase):
    def hold(self, stages, draw, turns, often, most):
        """Holds a road against a keeper that is asked the same, and queues told one by one."""
        crossing, names = stages.crossing, stages.crossing.names()
        road, keeper, nearness = Road(stages), Keeper(stages), Nearness(crossing)
        bounds = {name: worst(stages, name)[0] + 1 for name in names}
        standing, came, gone = {name: [] for name in names}, {name: 0 for name in names}, {name: 0 for name in names}
        for turn in range(turns):
            comings = {name: draw.randint(0, most) for name in names if draw.random() < often}
            for name, many in comings.items():
                for each in range(many):
                    standing[name].append((turn, turn + (len(standing[name]) + 1) * bounds[name] - 1))
                came[name] += many
            self.assertEqual(road.shown(), keeper.shown())
            told = road.pass_turn(comings)
            colours = keeper.pass_turn([name for name in names if standing[name]])
            self.assertEqual(nearness.too_near(colours), [])
            wanted = []
            for name in names:
                if colours[name] == "free":
                    many = crossing.called(name).goes(len(standing[name]))
                    leaving, standing[name] = standing[name][:many], standing[name][many:]
                    gone[name] += many
                    for begun, bound in leaving:
                        self.assertLessEqual(turn, bound)
                    for begun in sorted({begun for begun, bound in leaving}):
                        wanted.append((name, begun, sum([each[0] == begun for each in leaving])))
            self.assertEqual(told, wanted)
            self.assertEqual(list(road.queues().items()), [(name, len(standing[name])) for name in names])
            self.assertEqual(road.queues(), {name: came[name] - gone[name] for name in names})

    def test_drawn_roads(self):
        draw = drawing(18)
        for tries in range(120):
            stages = drawn_stages(draw, most_ways=draw.choice([3, 6]), most_turns=draw.choice([0, 3, 8]))
            self.hold(stages, draw, 200, draw.choice([0.01, 0.05, 0.3]), draw.choice([1, 3]))

    def test_many_turns(self):
        self.hold(read_stages(town(), GOOD), drawing(19), 5000, 0.03, 1)

    def test_great_numbers_and_many_turns(self):
        road = town_road()
        gone = {name: 0 for name in town().names()}
        for turn in range(20000):
            for name, came, many in road.pass_turn({"zebra": 10 ** 9, "north": 1, "line": 1}):
                self.assertTrue(0 <= came <= turn and many >= 1)
                gone[name] += many
        queues = road.queues()
        self.assertEqual(gone["zebra"] + queues["zebra"], 20000 * 10 ** 9)
        self.assertEqual(gone["north"] + queues["north"], 20000)
        self.assertEqual(gone["line"] + queues["line"], 20000)
        self.assertGreater(min(gone["zebra"], gone["north"], gone["line"]), 500)


if __name__ == "__main__":
    unittest.main()
