import unittest

from cases import drawing
from lampway.drawing import drawn, undrawn

COLOURS = ("stop", "ready", "free", "fade")


class Drawing(unittest.TestCase):
    def assert_back(self, begin, rows):
        texts = drawn(begin, rows)
        read = undrawn(texts)
        self.assertEqual([list(row.items()) for row in read], [list(row.items()) for row in rows])

    def test_no_rows(self):
        for begin in (0, 7, 10 ** 60):
            self.assertEqual(drawn(begin, []), [" " * 9])

    def test_one_row(self):
        row = {"north": "free", "a": "stop", "abcdefgh": "fade", "b": "ready"}
        self.assertEqual(drawn(7, [row]), ["         7", "north    |", "a        .", "abcdefgh ~", "b        :"])
        self.assert_back(7, [row])

    def test_the_dicts_order(self):
        self.assertEqual(drawn(0, [{"b": "stop", "a": "free"}]), ["         0", "b        .", "a        |"])

    def test_all_signs(self):
        rows = [{"way": colour} for colour in COLOURS]
        self.assertEqual(drawn(8, rows), ["         8901", "way      .:|~"])
        self.assert_back(8, rows)

    def test_the_last_figure_of_each_turn(self):
        rows = [{"a": "stop"}] * 25
        for begin in (0, 5, 9, 10, 99, 10 ** 59 + 3, 10 ** 60):
            wanted = "".join([str(begin + step)[-1] for step in range(25)])
            self.assertEqual(drawn(begin, rows)[0], " " * 9 + wanted)

    def test_two_hundred_rows(self):
        draw = drawing(32)
        for names in (["a"], ["abcdefgh"], list("abcdefghijkl"), ["north", "abcdefgh", "z"]):
            for many in (1, 2, 10, 199, 200):
                rows = [{name: draw.choice(COLOURS) for name in names} for turn in range(many)]
                kept = [dict(row) for row in rows]
                texts = drawn(draw.choice([0, 10 ** 59]), rows)
                self.assertEqual(rows, kept)
                self.assertIs(type(texts), list)
                self.assertEqual([type(text) for text in texts], [str] * (len(names) + 1))
                self.assertEqual([len(text) for text in texts], [9 + many] * (len(names) + 1))
                for name, text in zip(names, texts[1:]):
                    self.assertEqual(text[:9], name + " " * (9 - len(name)))
                self.assert_back(3, rows)

    def test_what_is_told_is_the_askers_own(self):
        rows = [{"a": "stop"}, {"a": "free"}]
        texts = drawn(0, rows)
        read = undrawn(texts)
        rows[0]["a"] = "fade"
        texts[1] = ""
        self.assertEqual(read, [{"a": "stop"}, {"a": "free"}])
        read[0]["a"] = "ready"
        self.assertEqual(undrawn(["         01", "a        .|"]), [{"a": "stop"}, {"a": "free"}])


if __name__ == "__main__":
    unittest.main()
