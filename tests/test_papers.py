import itertools
import unittest

from cases import drawing, drawn_crossing
from lampway.crossings import read_crossing
from lampway.meets import gap, meet
from lampway.papers import bears, begins_do

# All four meet one another: they have one end. Their gaps: a to others 5 less near, and so on.
STAR = read_crossing("ring 9\ncar a 0 8 5 0 9\ncar b 1 8 4 1 9\nfoot c 2 8 3 2 9\ntram d 3 8 2 3 9")
# A chain: p and q meet, q and r meet, p and r do not; s meets none.
CHAIN = read_crossing("ring 20\ncar p 0 5 3 0 1\ncar q 2 8 2 0 1\ncar r 6 12 1 0 1\nfoot s 15 16 7 0 1")


def told_begins_do(crossing, wants, size, begins):
    for name, turns in wants:
        if turns + crossing.called(name).fade() + crossing.called(name).ready() > size:
            return False
    for (one, turns), begin in zip(wants, begins):
        for (other, more), second in zip(wants, begins):
            if one != other and meet(crossing, one, other):
                if (second - begin) % size < turns + gap(crossing, one, other):
                    return False
    return True


def some_begins_do(crossing, wants, size):
    first = [0] if size else []
    return any([told_begins_do(crossing, wants, size, list(begins))
                for begins in itertools.product(first, *[range(size)] * (len(wants) - 1))])


class Begins(unittest.TestCase):
    def assert_do(self, wanted, crossing, wants, size, begins):
        self.assertIs(begins_do(crossing, wants, size, begins), wanted, (wants, size, begins))

    def test_two_wants(self):
        wants = [("a", 6), ("b", 7)]
        # From a to b 6 + 4, from b to a 7 + 4.
        self.assert_do(True, STAR, wants, 21, [0, 10])
        self.assert_do(False, STAR, wants, 21, [0, 9])
        self.assert_do(False, STAR, wants, 21, [0, 11])
        self.assert_do(False, STAR, wants, 20, [0, 10])
        self.assert_do(True, STAR, wants, 22, [0, 10])
        self.assert_do(True, STAR, wants, 22, [0, 11])
        self.assert_do(False, STAR, wants, 22, [0, 12])
        self.assert_do(True, STAR, wants, 21, [15, 4])
        self.assert_do(False, STAR, wants, 21, [15, 5])
        self.assert_do(False, STAR, wants, 21, [16, 4])
        self.assert_do(False, STAR, wants, 21, [3, 3])

    def test_a_want_alone(self):
        for name, rest in (("a", 3), ("c", 3), ("d", 3)):
            for turns in (1, 60):
                self.assert_do(True, STAR, [(name, turns)], turns + rest, [turns + rest - 1])
                self.assert_do(False, STAR, [(name, turns)], turns + rest - 1, [0])
        swift = read_crossing("ring 2\nfoot a 0 1 0 0 1")
        self.assert_do(True, swift, [("a", 1)], 1, [0])
        self.assert_do(False, swift, [("a", 2)], 1, [0])

    def test_ways_that_do_not_meet(self):
        self.assert_do(True, CHAIN, [("p", 5), ("r", 5), ("s", 1)], 8, [0, 0, 0])
        self.assert_do(True, CHAIN, [("p", 5), ("r", 5), ("s", 1)], 8, [3, 7, 5])
        self.assert_do(False, CHAIN, [("p", 5), ("r", 5), ("s", 1)], 7, [3, 6, 5])
        self.assert_do(False, CHAIN, [("p", 5), ("r", 5), ("s", 2)], 8, [3, 7, 5])

    def test_a_ways_least_is_not_looked_at(self):
        self.assert_do(True, STAR, [("a", 1)], 4, [0])

    def test_one_begin_moved(self):
        wants = [("p", 4), ("q", 5), ("r", 3)]
        # p to q 7, q to p 7, q to r 7, r to q 4.
        self.assert_do(True, CHAIN, wants, 14, [0, 7, 0])
        self.assert_do(True, CHAIN, wants, 14, [0, 7, 3])
        self.assert_do(False, CHAIN, wants, 14, [0, 7, 4])
        self.assert_do(False, CHAIN, wants, 14, [0, 7, 13])
        self.assert_do(False, CHAIN, wants, 14, [1, 7, 0])
        self.assert_do(False, CHAIN, wants, 14, [0, 6, 0])

    def test_drawn_wants(self):
        draw = drawing(20)
        seen = [0, 0]
        for tries in range(3000):
            crossing = drawn_crossing(draw, most_ways=5, most_places=7, most_turns=3)
            names = crossing.names()
            draw.shuffle(names)
            wants = [(name, draw.randint(1, 4)) for name in names[:5]]
            size = draw.randint(1, 40)
            begins = [draw.randrange(size) for want in wants]
            kept = (list(wants), list(begins))
            wanted = told_begins_do(crossing, wants, size, begins)
            self.assert_do(wanted, crossing, wants, size, begins)
            self.assertEqual((wants, begins), kept)
            seen[wanted] += 1
        self.assertGreater(min(seen), 300)


class Papers(unittest.TestCase):
    def assert_bears(self, wanted, crossing, wants, size, paper):
        self.assertIs(bears(crossing, wants, size, paper), wanted, (wants, size, paper))

    def test_alone(self):
        wants = [("a", 6), ("c", 9), ("d", 1)]
        for want, needed in ((0, 9), (1, 12), (2, 4)):
            self.assert_bears(False, STAR, wants, needed, ("alone", want))
            self.assert_bears(True, STAR, wants, needed - 1, ("alone", want))
            self.assert_bears(True, STAR, wants, 0, ("alone", want))
            self.assert_bears(False, STAR, wants, 500, ("alone", want))

    def test_a_ring_of_two(self):
        wants = [("a", 6), ("b", 7)]
        for ring in ((0, 1), (1, 0)):
            self.assert_bears(True, STAR, wants, 20, ("ring", ring))
            self.assert_bears(False, STAR, wants, 21, ("ring", ring))
            self.assert_bears(True, STAR, wants, 0, ("ring", ring))

    def test_a_ring_of_one_and_of_none(self):
        wants = [("a", 6), ("b", 7)]
        for ring in ((0,), (1,), ()):
            self.assert_bears(False, STAR, wants, 0, ("ring", ring))

    def test_a_want_twice_in_a_ring(self):
        wants = [("a", 6), ("b", 7), ("c", 8)]
        for ring in ((0, 0), (0, 1, 0), (0, 1, 0, 1), (0, 1, 0, 2), (0, 1) * 10):
            self.assert_bears(False, STAR, wants, 1, ("ring", ring))

    def test_neighbours_that_are_not_in_order(self):
        wants = [("a", 6), ("b", 7), ("c", 8)]
        for ring in ((1, 2), (0, 1, 2), (2, 1, 0), (1, 2, 0)):
            self.assert_bears(False, STAR, wants, 0, ("ring", ring))
        # p and r do not meet; a ring of p, q, r has them for neighbours.
        self.assert_bears(False, CHAIN, [("p", 5), ("q", 5), ("r", 5)], 0, ("ring", (0, 1, 2)))
        # Want 0 does not meet the others: these are in no order at first.
        self.assert_bears(False, CHAIN, [("s", 5), ("p", 5), ("q", 5)], 0, ("ring", (1, 2)))

    def test_a_case_by_its_orders(self):
        wants = [("a", 6), ("b", 7), ("c", 8)]
        # Gaps: a to b 4, a to c 3, b to a 4, b to c 2, c to a 3, c to b 2.
        one = ("ring", (0, 1, 2))
        other = ("ring", (0, 2, 1))
        least_one = (6 + 4) + (7 + 2) + (8 + 3)
        least_other = (6 + 3) + (8 + 2) + (7 + 4)
        self.assertEqual((least_one, least_other), (30, 30))
        self.assert_bears(True, STAR, wants, 29, ("case", 1, 2, one, other))
        self.assert_bears(False, STAR, wants, 30, ("case", 1, 2, one, other))
        self.assert_bears(True, STAR, wants, 29, ("case", 2, 1, other, one))
        # With the other order the same ring goes back twice, and needs twice as many turns.
        self.assert_bears(False, STAR, wants, 29, ("case", 1, 2, other, one))
        self.assert_bears(False, STAR, wants, 29, ("case", 1, 2, one, one))
        self.assert_bears(False, STAR, wants, 29, ("case", 1, 2, other, other))
        self.assert_bears(True, STAR, wants, 14, ("case", 1, 2, other, one))
        self.assert_bears(False, STAR, wants, 15, ("case", 1, 2, other, one))

    def test_one_side_of_a_case_spoiled(self):
        wants = [("a", 6), ("b", 7), ("c", 8)]
        one, other = ("ring", (0, 1, 2)), ("ring", (0, 2, 1))
        for bad in (("alone", 0), ("ring", (0, 1)), ("ring", (0,)), ("case", 1, 2, one, other), ("case", 1, 1, one, other)):
            self.assert_bears(False, STAR, wants, 29, ("case", 1, 2, bad, other))
            self.assert_bears(False, STAR, wants, 29, ("case", 1, 2, one, bad))

    def test_a_case_that_is_none(self):
        wants = [("a", 6), ("b", 7), ("c", 8)]
        sure = ("alone", 0)
        for one, other in ((0, 1), (1, 0), (0, 2), (2, 0), (0, 0), (1, 1), (2, 2)):
            self.assert_bears(False, STAR, wants, 0, ("case", one, other, sure, sure))
        self.assert_bears(True, STAR, wants, 0, ("case", 1, 2, sure, sure))
        self.assert_bears(True, STAR, wants, 0, ("case", 2, 1, sure, sure))
        apart = [("q", 5), ("p", 5), ("r", 5), ("s", 5)]
        for one, other in ((1, 2), (2, 1), (1, 3), (3, 2), (0, 3)):
            self.assert_bears(False, CHAIN, apart, 0, ("case", one, other, sure, sure))

    def test_a_ring_of_those_behind(self):
        wants = [("a", 6), ("b", 7), ("c", 8)]
        ring = ("ring", (1, 2))
        self.assert_bears(True, STAR, wants, 18, ("case", 1, 2, ring, ring))
        self.assert_bears(False, STAR, wants, 19, ("case", 1, 2, ring, ring))

    def test_cases_within_one_another(self):
        wants = [("a", 6), ("b", 7), ("c", 8), ("d", 9)]
        sure = ("alone", 3)
        within = ("case", 2, 3, sure, sure)
        paper = ("case", 1, 2, ("case", 1, 3, within, within), ("case", 3, 1, sure, within))
        self.assert_bears(True, STAR, wants, 11, paper)
        self.assert_bears(False, STAR, wants, 12, paper)
        # Ordered already in one case within: it is none.
        again = ("case", 1, 2, ("case", 1, 3, within, ("case", 2, 1, sure, sure)), sure)
        self.assert_bears(False, STAR, wants, 0, again)
        # A ring in which each is ahead of the next one all the way round needs no turns at all.
        round_about = ("case", 1, 2, ("case", 2, 3, ("case", 3, 1, ("ring", (1, 2, 3)), sure), sure), sure)
        self.assert_bears(False, STAR, wants, 12, round_about)
        self.assert_bears(True, STAR, wants, 11, round_about)
        only_round = ("case", 1, 2, ("case", 2, 3, ("case", 3, 1, ("ring", (1, 2, 3)), ("ring", (1, 3))), ("ring", (2, 3))),
                      ("ring", (1, 2)))
        # Of its rings of two, that of c and d needs the fewest turns: 8 and 9, without gaps.
        self.assert_bears(True, STAR, wants, 16, only_round)
        self.assert_bears(False, STAR, wants, 17, only_round)

    def test_twenty_cases_within_one_another(self):
        wants = [("a", 6), ("b", 7), ("c", 8), ("d", 9)]
        paper = ("alone", 0)
        for step in range(20):
            paper = ("case", 1 + step % 3, 1 + (step + 1) % 3, paper, paper)
        self.assert_bears(False, STAR, wants, 0, paper)
        self.assert_bears(False, STAR, wants, 0, ("ring", tuple(range(4)) * 5))

    def test_no_paper_bears_where_begins_do(self):
        draw = drawing(21)
        seen = [0, 0]
        for tries in range(1500):
            crossing = drawn_crossing(draw, most_ways=4, most_places=6, most_turns=2)
            wants = [(name, draw.randint(1, 3)) for name in crossing.names()][:4]
            size = draw.randint(1, 9)
            paper = drawn_paper(draw, len(wants), 3)
            if bears(crossing, wants, size, paper):
                seen[1] += paper[0] != "alone"
                self.assertFalse(some_begins_do(crossing, wants, size), (wants, size, paper))
            else:
                seen[0] += 1
        self.assertGreater(min(seen), 20)


def drawn_paper(draw, many, deep):
    form = draw.choice(["alone", "ring", "ring", "case", "case"])
    if form == "alone" or many < 2:
        return ("alone", draw.randrange(many))
    if form == "ring" or deep == 0:
        return ("ring", tuple(draw.sample(range(many), draw.randint(2, many))))
    one, other = draw.sample(range(many), 2)
    return ("case", one, other, drawn_paper(draw, many, deep - 1), drawn_paper(draw, many, deep - 1))


if __name__ == "__main__":
    unittest.main()
