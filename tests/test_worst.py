import unittest

from cases import drawing, drawn_staging, refusal, town
from lampway.crossings import read_crossing
from lampway.errors import NoWay
from lampway.keeper import Keeper
from lampway.stages import change, read_stages
from lampway.worst import worst
from model import Model, greatest_wait, reachable

GOOD = "stage 4 8 north turn\nstage 3 6 east west\nstage 2 3 line\nstage 5 9 zebra"


def waited(stages, name, rows, turn):
    """How many turns a new keeper lets the way wait, from this turn on, by these asks."""
    keeper = Keeper(stages)
    shown = [keeper.pass_turn(asks)[name] for asks in rows]
    return shown.index("free", turn) - turn


def longest_by(keeper, rows, names):
    """The longest wait of each way behind an ask, in the turns of these rows of asks."""
    since, found = {}, {name: 0 for name in names}
    for turn, asks in enumerate(rows):
        shown = keeper.pass_turn(asks)
        for name in asks:
            since.setdefault(name, turn)
        for name in names:
            if shown[name] == "free" and name in since:
                found[name] = max(found[name], turn - since.pop(name))
    for name, begin in since.items():
        found[name] = max(found[name], len(rows) - begin)
    return found


class Worst(unittest.TestCase):
    def assert_comes_to_it(self, stages, name):
        told = worst(stages, name)
        self.assertIs(type(told), tuple)
        turns, rows, turn = told
        self.assertEqual([type(turns), type(rows), type(turn)], [int, list, int])
        self.assertEqual([type(asks) for asks in rows], [list] * len(rows))
        self.assertIn(name, rows[turn])
        self.assertGreater(len(rows), turn + turns)
        self.assertLessEqual(len(rows), 2000)
        self.assertEqual(waited(stages, name, rows, turn), turns)
        return turns

    def worst_of(self, ways, text, name):
        return self.assert_comes_to_it(read_stages(read_crossing("ring 40\n" + "\n".join(ways)), text), name)

    def test_one_stage(self):
        for sort in ("car", "foot", "tram"):
            self.assertEqual(self.worst_of([f"{sort} a 0 1 9 0 1", f"{sort} b 2 3 9 0 1"], "stage 5 9 a b", "b"), 0)

    def test_two_stages(self):
        ways = ["car a 0 4 7 1 1", "car b 2 6 30 2 1"]
        # The change to b has 5 turns, the one back 29; b stays for its MOST.
        self.assertEqual(self.worst_of(ways, "stage 3 8 a\nstage 2 6 b", "a"), 5 + 6 + 29)
        self.assertEqual(self.worst_of(ways, "stage 3 8 a\nstage 2 6 b", "b"), 29 + 8 + 5)

    def test_a_tram_waits_for_the_least_alone(self):
        ways = ["car a 0 4 7 1 1", "tram b 2 6 30 2 1"]
        self.assertEqual(self.worst_of(ways, "stage 3 8 a\nstage 2 6 b", "a"), 5 + 6 + 29)
        self.assertEqual(self.worst_of(ways, "stage 3 8 a\nstage 2 6 b", "b"), 29 + 3 + 5)

    def test_changes_of_no_turns(self):
        ways = [f"foot {name} {2 * number} {2 * number + 1} 0 0 1" for number, name in enumerate("abcdef")]
        text = "\n".join([f"stage 1 {number + 1} {name}" for number, name in enumerate("abcdef")])
        for number, name in enumerate("abcdef"):
            self.assertEqual(self.worst_of(ways, text, name), 21 - (number + 1))

    def test_trams_between_the_others(self):
        ways = ["foot a 0 1 0 0 1", "foot b 2 3 0 0 1", "foot c 4 5 0 0 1", "tram x 6 7 0 0 1"]
        text = "stage 1 5 a\nstage 1 6 b\nstage 1 7 c\nstage 1 3 x"
        # Behind a, x, b, x, c, x: each x with 2 turns of change ahead of it and 1 behind.
        self.assertEqual(self.worst_of(ways, text, "a"), (2 + 3 + 1) * 3 + 6 + 7)
        self.assertEqual(self.worst_of(ways, text, "x"), 2 + 1 + 1 + 0)

    def test_a_town(self):
        stages = read_stages(town(), GOOD)
        for name in town().names():
            self.assert_comes_to_it(stages, name)
        self.assertEqual(worst(stages, "north")[0], worst(stages, "turn")[0])
        # West is asked as line is left for zebra; line comes between once more, and north is the last ahead of it.
        changes = [change(stages, one, other) for one, other in ((1, 2), (2, 3), (3, 2), (2, 0), (0, 2), (2, 1))]
        self.assertEqual(worst(stages, "west")[0], sum(changes) + 3 * 3 + 9 + 8)

    def test_the_greatest_plans(self):
        for sorts in (["car"] * 6, ["foot"] * 6, ["tram"] * 6, ["car"] * 5 + ["tram"], ["tram"] * 3 + ["foot"] * 3,
                      ["foot", "tram", "tram", "tram", "tram", "tram"], ["car", "tram"] * 3):
            ways = [f"{sort} {name} {number} 39 30 0 60" for number, (sort, name) in enumerate(zip(sorts, "abcdef"))]
            text = "\n".join([f"stage 60 60 {name}" for name in "abcdef"])
            for name in "abcdef":
                is_tram = sorts["abcdef".index(name)] == "tram"
                own = sum([(sort == "tram") == is_tram for sort in sorts])
                # All of its sort, and one of the other sort ahead of each.
                between = own - 1 + (own if own < 6 else 0)
                self.assertEqual(self.worst_of(ways, text, name), 90 * between + 30)

    def test_against_all_states(self):
        draw = drawing(13)
        seen = {}
        while len(seen) < 12 or min(seen.values()) < 4:
            crossing, text = drawn_staging(draw, most_ways=draw.choice([3, 4, 5]), most_turns=2, most_places=12)
            model = Model(crossing, text)
            kind = (model.many, sum(model.trams))
            if not 2 <= model.many <= 4 or max(model.changes.values()) > 5 or seen.get(kind, 0) > 20:
                continue
            follow = reachable(model)
            stages = read_stages(crossing, text)
            seen[kind] = seen.get(kind, 0) + 1
            for name in crossing.names():
                self.assertEqual(self.assert_comes_to_it(stages, name), greatest_wait(model, follow, name), (text, name))

    def test_drawn_plans_and_drawn_asks(self):
        draw = drawing(14)
        for tries in range(120):
            crossing, text = drawn_staging(draw, most_ways=draw.choice([4, 7, 9]), most_turns=draw.choice([0, 4, 9]))
            stages = read_stages(crossing, text)
            names = crossing.names()
            most = {name: self.assert_comes_to_it(stages, name) for name in names}
            for often in (0.03, 0.2, 0.7):
                rows = [[name for name in names if draw.random() < often] for turn in range(250)]
                found = longest_by(Keeper(stages), rows, names)
                self.assertEqual([name for name in names if found[name] > most[name]], [], text)

    def test_a_name_that_is_no_ways(self):
        stages = read_stages(town(), GOOD)
        alone = read_stages(read_crossing("ring 2\ncar a 0 1 0 0 1"), "stage 1 1 a")
        for name in ("", "nort", "North"):
            self.assertEqual(refusal(worst, stages, name), (NoWay, {"name": name}))
            self.assertEqual(refusal(worst, alone, name), (NoWay, {"name": name}))

    def test_what_is_told_is_the_askers_own(self):
        stages = read_stages(town(), GOOD)
        turns, rows, turn = worst(stages, "zebra")
        kept = [list(asks) for asks in rows]
        for asks in rows:
            asks.append("north")
        self.assertEqual(rows, [asks + ["north"] for asks in kept])
        self.assertEqual(self.assert_comes_to_it(stages, "zebra"), turns)


if __name__ == "__main__":
    unittest.main()
