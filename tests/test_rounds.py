import itertools
import time
import unittest

from cases import drawing, drawn_crossing, refusal, town
from lampway.crossings import read_crossing
from lampway.errors import NoWay
from lampway.meets import meet
from lampway.papers import bears, begins_do
from lampway.rounds import shortest


def no_begins_do(crossing, wants, size):
    """Gone through all begins; the first want's begin may be 0, since all may be shifted together."""
    for begins in itertools.product([0], *[range(size)] * (len(wants) - 1)):
        if begins_do(crossing, wants, size, list(begins)):
            return False
    return True


def ring_of(many, off, near):
    """Ways that meet just their neighbours, as in a ring: each one's bow takes in the next one's begin."""
    places = 2 * many
    rows = [f"ring {places}"]
    for number in range(many):
        rows.append(f"foot {'abcde'[number]} {2 * number} {(2 * number + 3) % places} {off} {near} 1")
    return read_crossing("\n".join(rows))


class Shortest(unittest.TestCase):
    def assert_shortest(self, crossing, wants):
        kept = list(wants)
        told = shortest(crossing, wants)
        self.assertEqual(wants, kept)
        self.assertIs(type(told), tuple)
        size, begins, paper = told
        self.assertEqual([type(size), type(begins), type(paper)], [int, list, tuple])
        self.assertEqual([type(begin) for begin in begins], [int] * len(wants))
        self.assertTrue(all([0 <= begin < size for begin in begins]))
        self.assertIs(begins_do(crossing, wants, size, begins), True, (wants, told))
        self.assertIs(bears(crossing, wants, size - 1, paper), True, (wants, told))
        return size

    def test_one_want(self):
        for row, rest in (("car a 0 1 9 0 1", 3), ("foot a 0 1 9 0 1", 9), ("tram a 0 1 9 0 1", 3),
                          ("foot a 0 1 0 0 1", 0)):
            for turns in (1, 2, 60):
                self.assertEqual(self.assert_shortest(read_crossing(f"ring 2\n{row}"), [("a", turns)]), turns + rest)

    def test_two_wants(self):
        crossing = read_crossing("ring 9\ncar a 0 4 7 1 1\ncar b 2 6 30 2 1\ncar c 7 8 9 9 1")
        self.assertEqual(self.assert_shortest(crossing, [("a", 6), ("b", 7)]), 6 + 5 + 7 + 29)
        self.assertEqual(self.assert_shortest(crossing, [("b", 7), ("a", 6)]), 6 + 5 + 7 + 29)
        self.assertEqual(self.assert_shortest(crossing, [("a", 6), ("c", 7)]), 10)
        self.assertEqual(self.assert_shortest(crossing, [("c", 3), ("b", 7), ("a", 6)]), 6 + 5 + 7 + 29)

    def test_three_that_meet_go_in_the_better_order(self):
        crossing = read_crossing("ring 9\ncar a 0 8 9 0 1\ncar b 1 8 0 5 1\ncar c 2 8 5 9 1")
        # a b c: gaps 4 0 5; a c b: no gaps, but from c round to a there must be 5 and 5 turns, from a to c 3.
        self.assertEqual(self.assert_shortest(crossing, [("a", 3), ("b", 4), ("c", 5)]), 13)
        self.assertEqual(self.assert_shortest(crossing, [("c", 5), ("b", 4), ("a", 3)]), 13)
        self.assertEqual(self.assert_shortest(crossing, [("a", 3), ("b", 6), ("c", 5)]), 14)

    def test_an_alone_that_needs_more_than_the_rings(self):
        crossing = read_crossing("ring 9\nfoot a 0 4 30 30 1\nfoot b 2 6 0 30 1")
        self.assertEqual(self.assert_shortest(crossing, [("a", 6), ("b", 7)]), 36)

    def test_odd_rings_of_neighbours(self):
        for many in (3, 4, 5):
            crossing = ring_of(many, 2, 0)
            names = crossing.names()
            for one in range(many):
                for other in range(one + 1, many):
                    near = (other - one) in (1, many - 1)
                    self.assertIs(meet(crossing, names[one], names[other]), near)
            for turns in (1, 5):
                size = self.assert_shortest(crossing, [(name, turns) for name in names])
                step = turns + 2
                # An even ring needs two steps in a round; of five, two rounds hold five; of three, one holds three.
                self.assertEqual(size, {3: 3 * step, 4: 2 * step, 5: -(-5 * step // 2)}[many])

    def test_five_wants_of_sixty_turns_come_soon(self):
        begun = time.monotonic()
        crossing = read_crossing("ring 9\n" + "\n".join([f"foot {'abcde'[k]} {k} 8 30 0 1" for k in range(5)]))
        self.assertEqual(self.assert_shortest(crossing, [(name, 60) for name in "abcde"]), 450)
        crossing = read_crossing("ring 9\n" + "\n".join([f"foot {'abcde'[k]} {k} 8 30 {7 * k} 1" for k in range(5)]))
        for wants in itertools.permutations("abcde"):
            self.assert_shortest(crossing, [(name, 60 - 7 * place) for place, name in enumerate(wants)])
        self.assertLess(time.monotonic() - begun, 60)

    def test_no_begins_do_for_a_smaller_size(self):
        draw = drawing(22)
        seen = {}
        for tries in range(700):
            crossing = drawn_crossing(draw, most_ways=5, most_places=7, most_turns=draw.choice([0, 1, 2]))
            names = crossing.names()
            draw.shuffle(names)
            wants = [(name, draw.randint(1, 2)) for name in names]
            size = self.assert_shortest(crossing, wants)
            if size ** (len(wants) - 1) < 3000:
                for smaller in range(1, size):
                    self.assertTrue(no_begins_do(crossing, wants, smaller), (wants, size, smaller))
                seen[len(wants)] = seen.get(len(wants), 0) + 1
        self.assertEqual(sorted(seen), [1, 2, 3, 4, 5])

    def test_drawn_wants(self):
        draw = drawing(23)
        for tries in range(400):
            crossing = drawn_crossing(draw, most_ways=7, most_places=draw.choice([3, 5, 9, 20]), most_turns=30)
            names = crossing.names()
            draw.shuffle(names)
            self.assert_shortest(crossing, [(name, draw.randint(1, 60)) for name in names[:5]])

    def test_a_longer_round_does_too(self):
        draw = drawing(24)
        for tries in range(60):
            crossing = drawn_crossing(draw, most_ways=3, most_places=5, most_turns=2)
            wants = [(name, draw.randint(1, 3)) for name in crossing.names()]
            size = self.assert_shortest(crossing, wants)
            for longer in range(size, size + 4):
                self.assertFalse(no_begins_do(crossing, wants, longer))

    def test_names_that_are_no_ways(self):
        for wants, name in (([("no", 1)], "no"), ([("north", 1), ("no", 1), ("nor", 1)], "no"), ([("", 60)], "")):
            self.assertEqual(refusal(shortest, town(), wants), (NoWay, {"name": name}))

    def test_what_is_told_is_the_askers_own(self):
        wants = [("north", 5), ("east", 5)]
        size, begins, paper = shortest(town(), wants)
        begins.clear()
        wants.clear()
        self.assertEqual(len(shortest(town(), [("north", 5), ("east", 5)])[1]), 2)


if __name__ == "__main__":
    unittest.main()
