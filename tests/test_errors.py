import unittest

from lampway.errors import Clash, LampError, Never, NoName, NoRow, NoText, NoWay, Short, TooMany

# Each with its fields, in the order in which it is made of them, and values for them.
FIELDED = [
    (NoText, ("row", "word"), (3, 0)),
    (NoWay, ("name",), ("north",)),
    (Never, ("way",), ("east",)),
    (Short, ("way", "at"), ("south", 17)),
    (Clash, ("way", "other", "at"), ("west", "tram", 239)),
    (NoName, ("name",), ("mill",)),
]
OF_A_TEXT = [TooMany, NoRow]
REFUSALS = [refusal for refusal, fields, values in FIELDED] + OF_A_TEXT


def made():
    return [refusal(*values) for refusal, fields, values in FIELDED] + [refusal("why") for refusal in OF_A_TEXT]


class Errors(unittest.TestCase):
    def test_fields_in_the_order_told(self):
        for refusal, fields, values in FIELDED:
            error = refusal(*values)
            self.assertEqual(tuple([getattr(error, field) for field in fields]), values)

    def test_fields_by_their_names(self):
        for refusal, fields, values in FIELDED:
            error = refusal(**dict(zip(fields, values)))
            self.assertEqual(tuple([getattr(error, field) for field in fields]), values)

    def test_fields_are_there_when_it_is_taken(self):
        for refusal, fields, values in FIELDED:
            with self.assertRaises(refusal) as taken:
                raise refusal(*values)
            self.assertEqual(tuple([getattr(taken.exception, field) for field in fields]), values)

    def test_fields_keep_their_kinds(self):
        self.assertIs(type(NoText(0, 0).row), int)
        self.assertIs(type(NoText(0, 0).word), int)
        self.assertIs(type(Short("a", 0).at), int)
        self.assertEqual(Clash("a", "b", 10 ** 65 - 1).at, 10 ** 65 - 1)

    def test_a_name_may_be_any_text(self):
        for name in ("", " ", "no\nway", "{name}", "it's \"so\"", "\u00e9", "\ud800", "a" * 9000):
            for refusal in (NoWay, NoName):
                self.assertEqual(refusal(name).name, name)

    def test_two_of_one_class_side_by_side(self):
        one = NoText(1, 2)
        other = NoText(3, 4)
        self.assertEqual((one.row, one.word, other.row, other.word), (1, 2, 3, 4))

    def test_made_of_a_text(self):
        for refusal in [LampError] + OF_A_TEXT:
            for text in ("", "why"):
                with self.assertRaises(refusal):
                    raise refusal(text)

    def test_each_is_taken_by_the_base_and_by_value_error(self):
        self.assertTrue(issubclass(LampError, ValueError))
        for error in made():
            for base in (LampError, ValueError):
                with self.assertRaises(base):
                    raise error

    def test_none_is_taken_by_another_ones_class(self):
        for error in made():
            self.assertEqual([refusal for refusal in REFUSALS if isinstance(error, refusal)], [type(error)])

    def test_the_base_alone_is_taken_by_none_of_them(self):
        self.assertEqual([refusal for refusal in REFUSALS if isinstance(LampError("why"), refusal)], [])
        self.assertNotIsInstance(ValueError("why"), LampError)

    def test_each_stands_straight_under_the_base(self):
        self.assertEqual(LampError.__bases__, (ValueError,))
        for refusal in REFUSALS:
            self.assertEqual(refusal.__bases__, (LampError,))


if __name__ == "__main__":
    unittest.main()
