import itertools
import unittest

from cases import drawing, drawn_plan, refusal, tried_plan
from lampway.crossings import read_crossing
from lampway.errors import LampError, TooMany
from lampway.lines import green_ways, through, widest
from lampway.looks import free
from lampway.plans import made_plan

# Feet who are off at once may be free in any turns.
SWIFT = read_crossing("ring 9\nfoot a 0 1 0 0 1\nfoot b 2 3 0 0 1")


def plan_of(size, a, b):
    return made_plan(SWIFT, size, [("a", begin, turns) for begin, turns in a] + [("b", begin, turns) for begin, turns in b])


def counted(line, forths, backs, shifts):
    size = line[0][0].size
    forth = back = 0
    for turn in range(size):
        there, good = turn + 1000 * size, True
        for place, (plan, way, other) in enumerate(line):
            good = good and free(plan, way, there - shifts[place])
            there += forths[place] if place < len(forths) else 0
        forth += good
        there, good = turn + 1000 * size, True
        for place in range(len(line) - 1, -1, -1):
            good = good and free(line[place][0], line[place][2], there - shifts[place])
            there += backs[place - 1] if place else 0
        back += good
    return forth, back


def drawn_line(draw, many, size):
    line = []
    for place in range(many):
        plan = None
        while plan is None:
            spans = [[(draw.randrange(size), draw.randint(1, size))] for name in "ab"]
            try:
                plan = plan_of(size, *spans)
            except LampError:
                plan = None
        line.append((plan, draw.choice("ab"), draw.choice("ab")))
    forths = [draw.choice([0, 1, draw.randint(0, 3 * size), 999]) for place in range(many - 1)]
    backs = [draw.choice([0, 1, draw.randint(0, 3 * size), 999]) for place in range(many - 1)]
    return line, forths, backs


class GreenWays(unittest.TestCase):
    def test_one_crossing(self):
        plan = plan_of(20, [(3, 5)], [(18, 6)])
        for shift in (0, 7, 19):
            self.assertEqual(green_ways([(plan, "a", "b")], [], [], [shift]), (5, 6))
            self.assertEqual(green_ways([(plan, "b", "b")], [], [], [shift]), (6, 6))

    def test_two_crossings(self):
        plan = plan_of(20, [(0, 5)], [(10, 4)])
        line = [(plan, "a", "a"), (plan, "a", "a")]
        self.assertEqual(green_ways(line, [0], [0], [0, 0]), (5, 5))
        self.assertEqual(green_ways(line, [3], [3], [0, 0]), (2, 2))
        self.assertEqual(green_ways(line, [3], [3], [0, 3]), (5, 0))
        self.assertEqual(green_ways(line, [3], [3], [3, 0]), (0, 5))
        self.assertEqual(green_ways(line, [3], [17], [0, 3]), (5, 5))
        self.assertEqual(green_ways(line, [43], [977], [0, 3]), (5, 5))
        self.assertEqual(green_ways(line, [4], [2], [0, 0]), (1, 3))
        self.assertEqual(green_ways(line, [4], [2], [6, 6]), (1, 3))
        self.assertEqual(green_ways(line, [4], [2], [19, 0]), (2, 2))

    def test_ways_forth_and_back_are_told_apart(self):
        plan = plan_of(20, [(0, 5)], [(10, 4)])
        self.assertEqual(green_ways([(plan, "a", "b"), (plan, "a", "b")], [1], [2], [0, 0]), (4, 2))
        self.assertEqual(green_ways([(plan, "b", "a"), (plan, "b", "a")], [1], [2], [0, 0]), (3, 3))
        self.assertEqual(green_ways([(plan, "a", "b"), (plan, "b", "a")], [10], [10], [0, 0]), (4, 4))

    def test_drawn_lines_turn_by_turn(self):
        draw = drawing(25)
        for tries in range(400):
            many, size = draw.randint(1, 5), draw.randint(1, 30)
            line, forths, backs = drawn_line(draw, many, size)
            shifts = [draw.randrange(size) for place in range(many)]
            kept = (list(forths), list(backs), list(shifts))
            told = green_ways(line, forths, backs, shifts)
            self.assertIs(type(told), tuple)
            self.assertEqual(told, counted(line, forths, backs, shifts))
            self.assertEqual((forths, backs, shifts), kept)

    def test_lines_of_drawn_plans(self):
        draw = drawing(26)
        for tries in range(60):
            first = drawn_plan(draw)
            plans = [first]
            while len(plans) < 3:
                other = tried_plan(draw, first.crossing)
                plans.extend([other] if other is not None and other.size == first.size else [])
                plans.extend([first] if draw.random() < 0.1 else [])
            line = [(plan, draw.choice(first.crossing.names()), draw.choice(first.crossing.names())) for plan in plans]
            shifts = [draw.randrange(first.size) for plan in line]
            forths, backs = ([draw.randint(0, 999) for plan in line[1:]] for way in range(2))
            self.assertEqual(green_ways(line, forths, backs, shifts), counted(line, forths, backs, shifts))


class Widest(unittest.TestCase):
    def assert_widest(self, line, forths, backs):
        size = line[0][0].size
        told = widest(line, forths, backs)
        self.assertIs(type(told), tuple)
        forth, back, shifts = told
        self.assertIs(type(shifts), list)
        self.assertEqual((len(shifts), shifts[0]), (len(line), 0))
        self.assertTrue(all([0 <= shift < size for shift in shifts]))
        self.assertEqual(green_ways(line, forths, backs, shifts), (forth, back))
        self.assertEqual(counted(line, forths, backs, shifts), (forth, back))
        return forth, back

    def test_one_crossing(self):
        plan = plan_of(240, [(3, 5)], [(18, 6)])
        self.assertEqual(widest([(plan, "a", "b")], [], []), (5, 6, [0]))

    def test_the_least_goes_ahead_of_the_sum(self):
        plan = plan_of(20, [(0, 8)], [(0, 8)])
        line = [(plan, "a", "b"), (plan, "a", "b")]
        # All forth would be (8, 4); a shift of half of it is (6, 6): the same sum, the greater least.
        self.assertEqual(self.assert_widest(line, [2], [2]), (6, 6))
        self.assertEqual(self.assert_widest(line, [3], [17]), (8, 8))
        self.assertEqual(sorted(self.assert_widest(line, [0], [3])), [6, 7])

    def test_against_all_shifts(self):
        draw = drawing(27)
        for tries in range(120):
            many = draw.randint(1, 4)
            size = draw.randint(1, {1: 30, 2: 20, 3: 6, 4: 4}[many])
            line, forths, backs = drawn_line(draw, many, size)
            told = self.assert_widest(line, forths, backs)
            every = [counted(line, forths, backs, shifts) for shifts in itertools.product(range(size), repeat=many)]
            best = max([(min(both), sum(both)) for both in every])
            self.assertEqual((min(told), sum(told)), best)

    def test_five_crossings(self):
        draw = drawing(28)
        line, forths, backs = drawn_line(draw, 5, 6)
        told = self.assert_widest(line, forths, backs)
        every = [green_ways(line, forths, backs, [0] + list(shifts)) for shifts in itertools.product(range(6), repeat=4)]
        self.assertEqual((min(told), sum(told)), max([(min(both), sum(both)) for both in every]))

    def test_too_many(self):
        def line(many, size):
            return [(plan_of(size, [(0, size)], [(0, size)]), "a", "b")] * many
        for many, size in ((1, 240), (2, 240), (2, 2000), (3, 44), (4, 12), (5, 6), (5, 1)):
            gaps = [7] * (many - 1)
            self.assertEqual(widest(line(many, size), gaps, gaps)[:2], (size, size))
        for many, size in ((2, 2001), (3, 45), (3, 240), (4, 13), (5, 7), (5, 240)):
            gaps = [7] * (many - 1)
            told = refusal(widest, line(many, size), gaps, gaps)
            self.assertIsNotNone(told)
            self.assertEqual(told[0], TooMany)

    def test_what_is_told_is_the_askers_own(self):
        draw = drawing(29)
        line, forths, backs = drawn_line(draw, 3, 6)
        told = widest(line, forths, backs)
        kept = list(told[2])
        told[2].append(99)
        self.assertEqual(widest(line, forths, backs)[2], kept)


class Through(unittest.TestCase):
    def test_two_crossings(self):
        plan = plan_of(20, [(5, 4)], [(0, 20)])
        line = [(plan, "a", "b"), (plan, "a", "b")]
        self.assertEqual(through(line, [3], [0, 0], 0), [5, 8])
        self.assertEqual(through(line, [3], [0, 0], 6), [6, 25])
        self.assertEqual(through(line, [3], [0, 3], 6), [6, 9])
        self.assertEqual(through(line, [3], [18, 0], 0), [3, 6])
        self.assertEqual(through(line, [3], [18, 0], 7), [23, 26])
        self.assertEqual(through(line, [999], [0, 0], 8), [8, 1007])
        self.assertEqual(through(line, [999], [0, 0], 8 + 10 ** 59), [8 + 10 ** 59, 1007 + 10 ** 59])
        self.assertEqual(through(line[:1], [], [7], 0), [12])
        self.assertEqual(through(line[:1], [], [17], 0), [2])

    def test_drawn_lines_turn_by_turn(self):
        draw = drawing(30)
        for tries in range(150):
            many, size = draw.randint(1, 5), draw.randint(1, 30)
            line, forths, backs = drawn_line(draw, many, size)
            shifts = [draw.randrange(size) for place in range(many)]
            ahead = None
            base = draw.choice([0, 10 ** 59])
            for turn in range(base, base + 2 * size):
                told = through(line, forths, shifts, turn)
                self.assertIs(type(told), list)
                there, wanted = turn, []
                for place, (plan, way, other) in enumerate(line):
                    while not free(plan, way, there - shifts[place] + size):
                        there += 1
                    wanted.append(there)
                    there += forths[place] if place < len(forths) else 0
                self.assertEqual(told, wanted)
                if ahead is not None:
                    self.assertTrue(all([early <= late for early, late in zip(ahead, told)]))
                ahead = told

    def test_who_goes_in_the_green_way_waits_nowhere(self):
        draw = drawing(31)
        for tries in range(100):
            many = draw.randint(1, 4)
            size = draw.randint(1, {1: 30, 2: 30, 3: 12, 4: 6}[many])
            line, forths, backs = drawn_line(draw, many, size)
            forth, back, shifts = widest(line, forths, backs)
            straight = 0
            for turn in range(3 * size, 4 * size):
                wanted = [turn + sum(forths[:place]) for place in range(many)]
                straight += through(line, forths, shifts, turn) == wanted
            self.assertEqual(straight, forth)


if __name__ == "__main__":
    unittest.main()
