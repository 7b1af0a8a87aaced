import unittest

from cases import drawing, drawn_plan, refusal, town
from lampway.crossings import read_crossing
from lampway.errors import NoWay
from lampway.looks import free
from lampway.plans import made_plan, read_plan
from lampway.queues import coming_by, grows, queue, slowest

LOOSE = read_crossing("ring 9\ncar car 0 1 5 0 3\ntram tram 2 3 5 0 2\nfoot foot 4 5 4 0 3\nfoot swift 6 7 0 0 2")
PLAN = made_plan(LOOSE, 10, [("car", 4, 3), ("tram", 8, 4), ("foot", 4, 3), ("swift", 0, 10)])
TOWN_PLAN = "\n".join(["round 60", "free north 2 8", "free line 15 2", "free turn 22 3", "free east 22 3",
                       "free west 26 3", "free zebra 31 5", "free turn 50 4", "free turn 40 4"])


def counted(plan, name, comings, turns):
    """The queue at each turn, and for each turn when the last who came in it went, gone turn by turn."""
    way = plan.crossing.called(name)
    queues, went, standing = [], {}, []
    for turn in range(turns):
        queues.append(len(standing) if way.kind != "foot" else sum([many for came, many in standing]))
        many = comings[turn % plan.size]
        if way.kind == "foot":
            standing.extend([(turn, many)] if many else [])
        else:
            standing.extend([turn] * many)
        if free(plan, name, turn) and standing:
            if way.kind == "foot":
                went.update({came: turn for came, many in standing})
                standing = []
            else:
                went[standing.pop(0)] = turn
    for came in standing:
        went.pop(came, None)
    return queues, went


def comings_of(**named):
    comings = [0] * 10
    for turn, many in named.items():
        comings[int(turn[1:])] = many
    return comings


class Coming(unittest.TestCase):
    def test_the_list_goes_round(self):
        coming = coming_by([3, 0, 10 ** 9])
        self.assertEqual([coming(turn) for turn in range(7)], [3, 0, 10 ** 9, 3, 0, 10 ** 9, 3])
        self.assertEqual([coming(3 * 10 ** 59 + turn) for turn in range(3)], [3, 0, 10 ** 9])
        self.assertEqual(coming(10 ** 60), [3, 0, 10 ** 9][10 ** 60 % 3])

    def test_one_number_and_many(self):
        for many in (0, 1, 10 ** 9):
            coming = coming_by([many])
            self.assertEqual([coming(turn) for turn in (0, 1, 7, 10 ** 60)], [many] * 4)
        coming = coming_by(list(range(240)))
        self.assertEqual([coming(turn) for turn in (0, 239, 240, 479)], [0, 239, 0, 239])

    def test_a_list_changed_behind_the_call(self):
        comings = [1, 2]
        coming = coming_by(comings)
        other = coming_by(comings)
        comings[0] = 9
        comings.append(9)
        self.assertEqual([coming(turn) for turn in range(4)], [1, 2, 1, 2])
        self.assertEqual([other(turn) for turn in range(4)], [1, 2, 1, 2])
        self.assertEqual([coming_by(comings)(turn) for turn in range(4)], [9, 2, 9, 9])


class Queues(unittest.TestCase):
    def test_cars(self):
        comings = comings_of(t0=2, t5=1)
        self.assertEqual([queue(PLAN, "car", comings, turn) for turn in range(14)],
                         [0, 2, 2, 2, 2, 1, 1, 0, 0, 0, 0, 2, 2, 2])

    def test_who_came_in_a_turn_may_go_in_it(self):
        self.assertEqual(queue(PLAN, "car", comings_of(t4=1), 5), 0)
        self.assertEqual(queue(PLAN, "car", comings_of(t4=2), 5), 1)
        self.assertEqual(queue(PLAN, "foot", comings_of(t4=10 ** 9), 5), 0)
        self.assertEqual(queue(PLAN, "car", comings_of(t3=1), 4), 1)
        self.assertEqual(queue(PLAN, "car", comings_of(t3=1), 3), 0)

    def test_trams_round_the_end(self):
        comings = comings_of(t0=1, t3=4)
        self.assertEqual([queue(PLAN, "tram", comings, turn) for turn in range(24)],
                         [0, 0, 0, 0, 4, 4, 4, 4, 4, 3, 2, 2, 1, 1, 5, 5, 5, 5, 5, 4, 3, 3, 2, 2])

    def test_feet_all_go(self):
        comings = comings_of(t0=5, t6=3, t7=10 ** 9)
        self.assertEqual([queue(PLAN, "foot", comings, turn) for turn in (0, 1, 4, 5, 6, 7, 8, 10, 11, 14, 15)],
                         [0, 5, 5, 0, 0, 0, 10 ** 9, 10 ** 9, 10 ** 9 + 5, 10 ** 9 + 5, 0])

    def test_a_way_free_all_round(self):
        comings = [10 ** 9] * 10
        for turn in (0, 1, 9, 10 ** 60):
            self.assertEqual(queue(PLAN, "swift", comings, turn), 0)

    def test_a_queue_that_grows(self):
        comings = comings_of(t0=10 ** 9)
        self.assertEqual(grows(PLAN, "car", comings), 10 ** 9 - 3)
        for rounds in (0, 1, 2, 3, 10 ** 58):
            self.assertEqual(queue(PLAN, "car", comings, 10 * rounds), rounds * (10 ** 9 - 3))
            self.assertEqual(queue(PLAN, "car", comings, 10 * rounds + 5), rounds * (10 ** 9 - 3) + 10 ** 9 - 1)

    def test_the_first_round_alone_may_grow_otherwise(self):
        comings = comings_of(t8=4)
        self.assertEqual([queue(PLAN, "car", comings, 10 * rounds) for rounds in range(4)], [0, 4, 5, 6])
        self.assertEqual(grows(PLAN, "car", comings), 1)
        self.assertEqual(queue(PLAN, "car", comings, 10 ** 59), 4 + 10 ** 58 - 1)
        comings = comings_of(t8=3)
        self.assertEqual([queue(PLAN, "car", comings, 10 * rounds) for rounds in range(4)], [0, 3, 3, 3])
        self.assertEqual(grows(PLAN, "car", comings), 0)

    def test_grows(self):
        for total, wanted in ((0, 0), (2, 0), (3, 0), (4, 1), (10 ** 9, 10 ** 9 - 3)):
            self.assertEqual(grows(PLAN, "car", comings_of(t5=total)), wanted)
        self.assertEqual(grows(PLAN, "tram", [1] * 10), 6)
        self.assertEqual(grows(PLAN, "foot", [10 ** 9] * 10), 0)
        self.assertEqual(grows(PLAN, "car", [10 ** 9] * 10), 10 ** 10 - 3)

    def test_drawn_plans_turn_by_turn(self):
        draw = drawing(15)
        for tries in range(150):
            plan = drawn_plan(draw)
            size = plan.size
            for name in plan.crossing.names():
                comings = [draw.choice([0, 0, 0, 0, 1, draw.randint(0, 3)]) for turn in range(size)]
                kept = list(comings)
                queues, went = counted(plan, name, comings, 5 * size)
                self.assertEqual([queue(plan, name, comings, turn) for turn in range(5 * size)], queues)
                growth = grows(plan, name, comings)
                for rounds in range(1, 4):
                    self.assertEqual(queues[(rounds + 1) * size] - queues[rounds * size], growth)
                frees = sum([free(plan, name, turn) for turn in range(size)])
                is_foot = plan.crossing.called(name).kind == "foot"
                self.assertEqual(growth, 0 if is_foot else max(0, sum(comings) - frees))
                far = 10 ** 59 // size
                turn = draw.randrange(size)
                self.assertEqual(queue(plan, name, comings, far * size + turn),
                                 queues[2 * size + turn] + (far - 2) * growth)
                self.assertEqual(comings, kept)


class Slowest(unittest.TestCase):
    def test_cars(self):
        self.assertEqual(slowest(PLAN, "car", comings_of(t7=1)), (7, 17))
        self.assertEqual(slowest(PLAN, "car", comings_of(t4=1)), (0, 14))
        self.assertEqual(slowest(PLAN, "car", comings_of(t0=3)), (6, 10))
        self.assertEqual(slowest(PLAN, "car", comings_of(t6=3)), (9, 16))

    def test_feet_with_great_numbers(self):
        self.assertEqual(slowest(PLAN, "foot", [10 ** 9] * 10), (7, 17))
        self.assertEqual(slowest(PLAN, "swift", comings_of(t3=10 ** 9)), (0, 13))

    def test_none(self):
        self.assertIsNone(slowest(PLAN, "car", [0] * 10))
        self.assertIsNone(slowest(PLAN, "foot", [0] * 10))
        self.assertIsNone(slowest(PLAN, "car", comings_of(t4=4)))
        self.assertIsNone(slowest(PLAN, "car", [10 ** 9] * 10))
        self.assertIsNotNone(slowest(PLAN, "car", comings_of(t4=3)))

    def test_a_queue_that_outlasts_the_round(self):
        self.assertEqual(slowest(PLAN, "car", comings_of(t6=1, t7=2)), (8, 17))
        self.assertEqual(slowest(PLAN, "car", comings_of(t5=2, t6=1)), (8, 16))
        self.assertEqual(slowest(PLAN, "tram", comings_of(t1=4)), (9, 11))
        self.assertEqual(slowest(PLAN, "tram", comings_of(t0=1, t1=3)), (8, 11))

    def test_drawn_plans_turn_by_turn(self):
        draw = drawing(16)
        seen = 0
        for tries in range(200):
            plan = drawn_plan(draw)
            size = plan.size
            for name in plan.crossing.names():
                many = draw.randint(0, 4)
                comings = [0] * size
                for each in range(many):
                    comings[draw.randrange(size)] += draw.choice([1, 1, 2])
                told = slowest(plan, name, comings)
                if grows(plan, name, comings) > 0 or sum(comings) == 0:
                    self.assertIsNone(told)
                    continue
                went = counted(plan, name, comings, 6 * size)[1]
                waits = {turn: went[turn] - turn for turn in went if turn < 3 * size and comings[turn % size]}
                self.assertIs(type(told), tuple)
                self.assertEqual(told[0], max(waits.values()))
                self.assertTrue(size <= told[1] < 2 * size)
                self.assertEqual(waits[told[1]], told[0])
                seen += told[0] > 0
        self.assertGreater(seen, 50)


class Names(unittest.TestCase):
    def test_names_that_are_no_ways(self):
        plan = read_plan(town(), TOWN_PLAN)
        for name in ("", "nort", "car"):
            for comings in ([0] * 60, [1] * 60):
                self.assertEqual(refusal(queue, plan, name, comings, 0), (NoWay, {"name": name}))
                self.assertEqual(refusal(queue, plan, name, comings, 10 ** 59), (NoWay, {"name": name}))
                self.assertEqual(refusal(grows, plan, name, comings), (NoWay, {"name": name}))
                self.assertEqual(refusal(slowest, plan, name, comings), (NoWay, {"name": name}))


if __name__ == "__main__":
    unittest.main()
