import unittest

from cases import drawing, drawn_crossing, drawn_plan, place_of_fault, refusal, town, with_more, with_word
from lampway.crossings import read_crossing
from lampway.errors import Clash, LampError, Never, NoText, NoWay, Short
from lampway.meets import gap, meet
from lampway.plans import Plan, made_plan, read_plan, written

NO_NUMBERS = ["", "x", "-1", "+1", "1.0", "00", "01", "1000", "1_0"]
GOOD = "\n".join([
    "round 60",
    "free north 2 8",
    "free line 15 2",
    "free turn 22 3",
    "free east 22 3",
    "free west 26 3",
    "free zebra 31 5",
    "free turn 50 4",
    "free turn 40 4",
])
# Ways that meet nowhere, so that nothing but Never and Short can refuse.
LOOSE = read_crossing("ring 9\ncar car 0 1 5 0 3\ntram tram 2 3 5 0 2\nfoot foot 4 5 4 0 3\nfoot swift 6 7 0 0 2")


def loose(size, *rows):
    """The rows, and for each way that has none of them one that is good."""
    named = [name for name, begin, turns in rows]
    more = [(name, 0, 5) for name in LOOSE.names() if name not in named]
    return refusal(made_plan, LOOSE, size, list(rows) + more)


def pair(off, near, back_off=0, back_near=0):
    """Two ways that meet; their gaps are off less near, back_off less back_near."""
    return read_crossing(f"ring 4\ncar one 0 2 {off} {back_near} 1\ncar other 1 3 {back_off} {near} 1")


def free_in(size, spans, name, turn):
    return any([called == name and (turn - begin) % size < turns for called, begin, turns in spans])


def clashes(crossing, size, spans):
    """All (way, other, turn) of point 13, told one by one."""
    found = []
    for one in crossing.names():
        for other in crossing.names():
            if one == other or not meet(crossing, one, other):
                continue
            back = range(gap(crossing, one, other) + 1)
            for turn in range(size):
                if free_in(size, spans, other, turn):
                    if any([free_in(size, spans, one, turn - step) for step in back]):
                        found.append((one, other, turn))
    return found


def told_short(crossing, size, spans):
    for place, (name, begin, turns) in enumerate(spans):
        way = crossing.called(name)
        others = [each for at, each in enumerate(spans) if at != place and each[0] == name]
        to_next = size if not others else min([(each[1] - begin) % size for each in others])
        if turns < way.least or to_next < turns + way.fade() + way.ready():
            return (Short, {"way": name, "at": begin})
    return None


class Reading(unittest.TestCase):
    def assert_fault(self, text, row, word):
        self.assertEqual(place_of_fault(read_plan, town(), text), (row, word), text)

    def test_a_good_text(self):
        crossing = town()
        plan = read_plan(crossing, GOOD)
        self.assertIsInstance(plan, Plan)
        self.assertEqual(plan.size, 60)
        self.assertIs(plan.crossing, crossing)

    def test_each_word_of_the_first_row_spoiled(self):
        for put in ("", "roun", "rounds", "Round", "ring", "60"):
            self.assert_fault(with_word(GOOD, 0, 0, put), 0, 0)
        for put in NO_NUMBERS + ["0", "241", "999", "060"]:
            self.assert_fault(with_word(GOOD, 0, 1, put), 0, 1)
        self.assert_fault(with_word(GOOD, 0, 1, None), 0, 1)
        for put in (" ", " 60", "  "):
            self.assert_fault(with_more(GOOD, 0, put), 0, 2)

    def test_each_word_of_each_row_spoiled(self):
        bad = {
            0: ["", "fre", "freed", "Free", "5", "stage"],
            1: ["", "nort", "North", "foot", "5", "abcdefghi"],
            2: NO_NUMBERS + ["60", "61", "240"],
            3: NO_NUMBERS + ["0", "61", "240"],
        }
        for row in range(1, 9):
            for word, puts in bad.items():
                for put in puts:
                    self.assert_fault(with_word(GOOD, row, word, put), row, word)
                if word:
                    self.assert_fault(with_word(GOOD, row, word, None), row, word)
            for put in (" ", " 5", "  "):
                self.assert_fault(with_more(GOOD, row, put), row, 4)

    def test_a_row_without_signs(self):
        self.assert_fault("", 0, 0)
        self.assert_fault(GOOD + "\n", 9, 0)
        self.assert_fault("round 60\n", 1, 0)
        self.assert_fault("\n" + GOOD, 0, 0)

    def test_a_fourth_span(self):
        self.assert_fault(GOOD + "\nfree turn 30 4", 9, 1)
        self.assertIsNone(refusal(read_plan, town(), GOOD + "\nfree west 46 3"))
        three = "round 60\nfree turn 1 1\nfree turn 1 1\nfree turn 1 1"
        self.assertEqual(refusal(read_plan, town(), three), (Never, {"way": "north"}))
        self.assert_fault(three + "\nfree turn 1 1", 4, 1)
        self.assert_fault(three + "\nfree north 1 1\nfree turn 1 1", 5, 1)

    def test_the_first_of_two_faults(self):
        for first in range(1, 8):
            for word in range(4):
                text = with_word(with_word(GOOD, first, word, "?"), first + 1, 0, "")
                self.assert_fault(text, first, word)
        self.assert_fault(with_word(with_word(GOOD, 3, 2, "60"), 3, 3, "0"), 3, 2)

    def test_bounds_of_size_begin_and_turns(self):
        one = read_crossing("ring 2\nfoot a 0 1 0 0 1")
        for size in (1, 2, 239, 240):
            for begin in (0, size - 1):
                for turns in (1, size):
                    text = f"round {size}\nfree a {begin} {turns}"
                    plan = read_plan(one, text)
                    self.assertEqual((plan.size, written(plan)), (size, text))
            self.assertEqual(place_of_fault(read_plan, one, f"round {size}\nfree a {size} 1"), (1, 2))
            self.assertEqual(place_of_fault(read_plan, one, f"round {size}\nfree a 0 {size + 1}"), (1, 3))

    def test_no_text_goes_ahead_of_the_other_refusals(self):
        self.assert_fault("round 60\nfree north 0 1\nfree north 0", 2, 3)

    def test_written_gives_what_was_read(self):
        self.assertEqual(written(read_plan(town(), GOOD)), GOOD)
        draw = drawing(2)
        for tries in range(100):
            plan = drawn_plan(draw)
            text = written(plan)
            self.assertEqual(written(read_plan(plan.crossing, text)), text)


class Nevers(unittest.TestCase):
    def test_a_way_with_no_span(self):
        crossing = town()
        self.assertEqual(refusal(read_plan, crossing, "round 60"), (Never, {"way": "north"}))
        self.assertEqual(refusal(made_plan, crossing, 60, []), (Never, {"way": "north"}))
        rows = GOOD.split("\n")
        for name in crossing.names():
            kept = "\n".join([row for row in rows if f" {name} " not in row])
            self.assertEqual(refusal(read_plan, crossing, kept), (Never, {"way": name}))

    def test_of_several_the_first_of_the_crossing(self):
        text = "round 60\nfree west 0 3\nfree north 20 4\nfree zebra 30 5"
        self.assertEqual(refusal(read_plan, town(), text), (Never, {"way": "east"}))


class Shorts(unittest.TestCase):
    def assert_short(self, way, at, size, *rows):
        self.assertEqual(loose(size, *rows), (Short, {"way": way, "at": at}), rows)

    def assert_good(self, size, *rows):
        self.assertIsNone(loose(size, *rows), rows)

    def test_turns_below_least_and_at_it(self):
        for name, least in (("car", 3), ("tram", 2), ("foot", 3), ("swift", 2)):
            for begin in (0, 7, 19):
                self.assert_short(name, begin, 20, (name, begin, least - 1))
                self.assert_good(20, (name, begin, least))

    def test_one_span_against_the_size(self):
        for name, rest in (("car", 3), ("tram", 3), ("foot", 4), ("swift", 0)):
            for begin in (0, 7, 19):
                self.assert_good(20, (name, begin, 20 - rest))
                if rest:
                    self.assert_short(name, begin, 20, (name, begin, 20 - rest + 1))
                    self.assert_short(name, begin, 20, (name, begin, 20))

    def test_the_turns_to_the_next_begin(self):
        for name, rest in (("car", 3), ("tram", 3), ("foot", 4), ("swift", 0)):
            for begin in (0, 5, 15, 25, 29):
                later = (begin + 12) % 30
                self.assert_good(30, (name, begin, 12 - rest), (name, later, 4))
                self.assert_good(30, (name, later, 4), (name, begin, 12 - rest))
                self.assert_short(name, begin, 30, (name, begin, 12 - rest + 1), (name, later, 4))
                self.assert_short(name, begin, 30, (name, later, 4), (name, begin, 12 - rest + 1))
                self.assert_good(30, (name, begin, 4), (name, later, 18 - rest))
                self.assert_short(name, later, 30, (name, begin, 4), (name, later, 18 - rest + 1))

    def test_two_spans_with_one_begin(self):
        for name in LOOSE.names():
            self.assert_short(name, 4, 30, (name, 4, 5), (name, 4, 5))
            self.assert_short(name, 4, 30, (name, 14, 5), (name, 4, 5), (name, 4, 6))

    def test_three_spans(self):
        self.assert_good(30, ("car", 0, 5), ("car", 8, 5), ("car", 16, 5))
        self.assert_good(30, ("car", 16, 11), ("car", 0, 5), ("car", 8, 5))
        self.assert_short("car", 16, 30, ("car", 0, 5), ("car", 16, 12), ("car", 8, 5))
        self.assert_short("car", 8, 30, ("car", 0, 5), ("car", 16, 11), ("car", 8, 6))

    def test_a_span_of_the_whole_round(self):
        self.assert_good(20, ("swift", 0, 20))
        self.assert_good(20, ("swift", 13, 20))
        self.assert_good(20, ("swift", 3, 9), ("swift", 12, 11))
        for name in ("car", "tram", "foot"):
            self.assert_short(name, 2, 20, (name, 2, 20))

    def test_of_several_the_first_in_the_text(self):
        self.assert_short("foot", 9, 30, ("foot", 9, 2), ("car", 4, 1))
        self.assert_short("car", 4, 30, ("car", 4, 1), ("foot", 9, 2))
        self.assert_short("car", 20, 30, ("car", 0, 5), ("car", 20, 1), ("car", 10, 1))

    def test_drawn_plans(self):
        draw = drawing(3)
        seen = 0
        for tries in range(1500):
            size = draw.randint(8, 40)
            rows = [(name, draw.randrange(size), draw.randint(1, 8))
                    for name in LOOSE.names() for number in range(draw.choice([1, 1, 2, 3]))]
            draw.shuffle(rows)
            told = refusal(made_plan, LOOSE, size, rows)
            self.assertEqual(told, told_short(LOOSE, size, rows))
            seen += told is None
        self.assertGreater(seen, 20)


class Clashes(unittest.TestCase):
    def assert_good(self, crossing, size, *rows):
        self.assertIsNone(refusal(made_plan, crossing, size, list(rows)), rows)

    def assert_clash(self, crossing, size, *rows):
        told = refusal(made_plan, crossing, size, list(rows))
        self.assertIsNotNone(told, rows)
        self.assertEqual(told[0], Clash)
        self.assertIn((told[1]["way"], told[1]["other"], told[1]["at"]), clashes(crossing, size, rows))

    def test_in_the_same_turn(self):
        crossing = pair(0, 0)
        self.assert_clash(crossing, 20, ("one", 3, 4), ("other", 6, 4))
        self.assert_clash(crossing, 20, ("one", 3, 4), ("other", 3, 4))
        self.assert_clash(crossing, 20, ("other", 3, 10), ("one", 6, 4))
        self.assert_good(crossing, 20, ("one", 3, 4), ("other", 7, 4))

    def test_one_turn_less_than_the_gap_and_just_the_gap(self):
        for off, near in ((5, 0), (7, 2), (30, 21), (3, 2)):
            crossing = pair(off, near)
            between = off - near
            for begin in (0, 10, 35):
                last = begin + 4
                self.assert_good(crossing, 40, ("one", begin, 4), ("other", (last + between) % 40, 4))
                self.assert_clash(crossing, 40, ("one", begin, 4), ("other", (last + between - 1) % 40, 4))
                self.assert_clash(crossing, 40, ("one", begin, 4), ("other", last % 40, 4))

    def test_the_gap_the_other_way_about(self):
        crossing = pair(0, 0, 9, 4)
        self.assert_good(crossing, 40, ("one", 0, 4), ("other", 4, 4))
        self.assert_good(crossing, 40, ("other", 0, 4), ("one", 9, 4))
        self.assert_clash(crossing, 40, ("other", 0, 4), ("one", 8, 4))

    def test_across_the_rounds_end(self):
        crossing = pair(5, 0)
        self.assert_good(crossing, 20, ("one", 12, 4), ("other", 1, 4))
        self.assert_clash(crossing, 20, ("one", 12, 4), ("other", 0, 4))
        self.assert_clash(crossing, 20, ("one", 18, 4), ("other", 1, 4))
        self.assert_good(crossing, 20, ("one", 18, 4), ("other", 7, 4))

    def test_over_more_than_a_whole_round(self):
        crossing = pair(30, 0)
        for begin in range(10):
            self.assert_clash(crossing, 10, ("one", 0, 1), ("other", begin, 1))
        self.assert_good(crossing, 40, ("one", 0, 1), ("other", 31, 1))
        self.assert_good(pair(8, 0), 10, ("one", 0, 1), ("other", 9, 1))
        self.assert_clash(pair(9, 0), 10, ("one", 0, 1), ("other", 9, 1))
        self.assert_clash(pair(10, 0), 10, ("one", 0, 1), ("other", 9, 1))

    def test_ways_that_do_not_meet(self):
        crossing = read_crossing("ring 9\ncar one 0 1 30 0 1\ncar other 2 3 30 0 1")
        self.assert_good(crossing, 10, ("one", 3, 4), ("other", 3, 4))

    def test_the_order_of_the_refusals(self):
        crossing = read_crossing("ring 4\ncar one 0 2 5 0 3\ncar other 1 3 5 0 3\ncar third 0 1 0 0 1")
        clash = [("one", 0, 3), ("other", 0, 3)]
        short = [("one", 0, 3), ("other", 0, 2)]
        third = [("third", 0, 1)]
        self.assertEqual(refusal(made_plan, crossing, 40, short), (Never, {"way": "third"}))
        self.assertEqual(refusal(made_plan, crossing, 40, short + third), (Short, {"way": "other", "at": 0}))
        self.assertEqual(refusal(made_plan, crossing, 40, clash + third)[0], Clash)
        self.assertEqual(refusal(made_plan, crossing, 40, clash)[0], Never)

    def test_drawn_plans_against_all_clashes(self):
        draw = drawing(4)
        seen = {None: 0, Clash: 0}
        for tries in range(4000):
            crossing = drawn_crossing(draw, most_ways=3, most_places=5)
            size = draw.randint(6, 40)
            rows = [(name, draw.randrange(size), draw.randint(1, 5)) for name in crossing.names()]
            told = refusal(made_plan, crossing, size, rows)
            kind = None if told is None else told[0]
            if kind in seen:
                found = clashes(crossing, size, rows)
                seen[kind] += bool(found) or kind is None
                self.assertEqual(kind is None, not found)
                if found:
                    self.assertIn((told[1]["way"], told[1]["other"], told[1]["at"]), found)
        self.assertGreater(min(seen.values()), 300)


class Made(unittest.TestCase):
    def test_rows_changed_behind_it(self):
        crossing = town()
        rows = [tuple([int(word) if word.isdigit() else word for word in row.split(" ")[1:]])
                for row in GOOD.split("\n")[1:]]
        kept = list(rows)
        plan = made_plan(crossing, 60, rows)
        self.assertEqual(rows, kept)
        rows.clear()
        rows.append(("north", 0, 60))
        self.assertEqual(written(plan), GOOD)
        self.assertEqual(plan.size, 60)

    def test_what_is_refused_changes_nothing(self):
        crossing = town()
        for text in ("", "round 60", GOOD + "\nfree turn 0 1", GOOD.replace("31 5", "10 5")):
            self.assertRaises(LampError, read_plan, crossing, text)
        self.assertEqual(crossing.names(), town().names())
        self.assertEqual(written(read_plan(crossing, GOOD)), GOOD)

    def test_a_name_that_is_no_ways(self):
        rows = [("north", 2, 8), ("no", 0, 1), ("nor", 0, 1)]
        self.assertEqual(refusal(made_plan, town(), 60, rows), (NoWay, {"name": "no"}))
        self.assertEqual(refusal(read_plan, town(), "round 60\nfree no 0 1"), (NoText, {"row": 1, "word": 1}))

    def test_two_plans_of_one_crossing(self):
        crossing = town()
        one = read_plan(crossing, GOOD)
        other = read_plan(crossing, GOOD.replace("round 60", "round 70"))
        self.assertEqual((one.size, other.size), (60, 70))
        self.assertIs(one.crossing, other.crossing)


if __name__ == "__main__":
    unittest.main()
