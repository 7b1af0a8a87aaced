import unittest

from lampway.words import figured, is_name, words

PRINTED = [chr(code) for code in range(ord(" "), ord("~") + 1)]
# Signs that Python's own int, isdigit, islower or strip take for figures, letters or blanks.
STRANGE = ["\n", "\t", "\r", "\0", "\x0b", "\x1c", "\x85", "\xa0", "\u2028", "\u2003", "\u0663", "\u00b2",
           "\uff15", "\u0967", "\u00e9", "\u00df", "\u00aa", "\u0131", "\uff41", "\u212a", "\U0001d7d8", "\ud800"]
EVERY_SIGN = PRINTED + STRANGE


class Words(unittest.TestCase):
    def test_rows_and_words(self):
        self.assertEqual(words("ring 8\ncar a 0 3 2 1 5"), [["ring", "8"], ["car", "a", "0", "3", "2", "1", "5"]])
        self.assertEqual(words("ring"), [["ring"]])

    def test_the_empty_text_has_a_row_with_a_word(self):
        self.assertEqual(words(""), [[""]])

    def test_blanks_at_the_edges_and_side_by_side(self):
        self.assertEqual(words(" "), [["", ""]])
        self.assertEqual(words("   "), [["", "", "", ""]])
        self.assertEqual(words(" a"), [["", "a"]])
        self.assertEqual(words("a "), [["a", ""]])
        self.assertEqual(words("a  b"), [["a", "", "b"]])
        self.assertEqual(words("  a   b  "), [["", "", "a", "", "", "b", "", ""]])

    def test_line_ends_at_the_edges_and_side_by_side(self):
        self.assertEqual(words("\n"), [[""], [""]])
        self.assertEqual(words("\na"), [[""], ["a"]])
        self.assertEqual(words("a\n"), [["a"], [""]])
        self.assertEqual(words("a\n\nb"), [["a"], [""], ["b"]])
        self.assertEqual(words("\n\n\n"), [[""], [""], [""], [""]])

    def test_blanks_beside_line_ends(self):
        self.assertEqual(words("a \n b"), [["a", ""], ["", "b"]])
        self.assertEqual(words(" \n "), [["", ""], ["", ""]])
        self.assertEqual(words("\n \n"), [[""], ["", ""], [""]])

    def test_no_other_sign_parts(self):
        signs = "".join([sign for sign in PRINTED if sign not in " %"])
        self.assertEqual(words(signs), [[signs]])
        self.assertEqual(words(signs + " " + signs + "\n" + signs), [[signs, signs], [signs]])

    def test_every_short_text_is_told_whole(self):
        texts = [""]
        for text in texts:
            if len(text) < 6:
                texts.extend([text + sign for sign in " \na"])
            told = words(text)
            self.assertEqual("\n".join([" ".join(row) for row in told]), text)
            self.assertEqual(len(told), text.count("\n") + 1)
            for row in told:
                self.assertGreaterEqual(len(row), 1)
                for word in row:
                    self.assertNotIn(" ", word)
                    self.assertNotIn("\n", word)

    def test_the_longest_texts(self):
        self.assertEqual(words("a" * 9000), [["a" * 9000]])
        self.assertEqual(words(" " * 9000), [[""] * 9001])
        self.assertEqual(words("\n" * 9000), [[""]] * 9001)

    def test_kinds(self):
        told = words("a b\n\nc")
        self.assertIs(type(told), list)
        for row in told:
            self.assertIs(type(row), list)
            for word in row:
                self.assertIs(type(word), str)

    def test_what_is_told_is_the_askers_own(self):
        text = "a b\n\nc"
        told = words(text)
        second = words(text)
        told[0][0] = "z"
        told[1].append("y")
        told.append(["x"])
        self.assertEqual(second, [["a", "b"], [""], ["c"]])
        self.assertEqual(words(text), [["a", "b"], [""], ["c"]])
        empty = words("")
        empty[0].append("z")
        self.assertEqual(words(""), [[""]])
        alike = words("\n")
        alike[0].append("z")
        self.assertEqual(alike, [["", "z"], [""]])


class Figured(unittest.TestCase):
    def assert_number(self, told, number):
        self.assertIs(type(told), int)
        self.assertEqual(told, number)

    def test_every_number_word(self):
        for number in range(1000):
            self.assert_number(figured(str(number), 0, 999), number)

    def test_a_0_ahead(self):
        for number in range(1000):
            for zeros in ("0", "00", "000"):
                self.assertIsNone(figured(zeros + str(number), 0, 999), zeros + str(number))

    def test_four_figures_and_more(self):
        for word in ("1000", "1234", "9999", "10000", "1" * 60, "1" * 5000):
            self.assertIsNone(figured(word, 0, 10 ** 64), word)

    def test_the_empty_word(self):
        self.assertIsNone(figured("", 0, 999))

    def test_one_other_sign_anywhere(self):
        for sign in EVERY_SIGN:
            if sign in "0123456789":
                continue
            for word in (sign, sign + "7", "7" + sign, sign + "42", "4" + sign + "2", "42" + sign, sign * 2, sign * 3):
                self.assertIsNone(figured(word, -999, 999), repr(word))

    def test_what_int_would_take(self):
        for word in ("+5", "-5", "-0", " 5", "5 ", "5\n", "\n5", "1_0", "0x1", "1.0", "1e2", "\t5", "0b1"):
            self.assertIsNone(figured(word, -999, 999), repr(word))

    def test_low_and_high(self):
        self.assert_number(figured("2", 2, 99), 2)
        self.assertIsNone(figured("1", 2, 99))
        self.assert_number(figured("99", 2, 99), 99)
        self.assertIsNone(figured("100", 2, 99))
        self.assert_number(figured("0", 0, 30), 0)
        self.assertIsNone(figured("0", 1, 60))
        self.assertIsNone(figured("31", 0, 30))

    def test_every_number_against_every_near_bound(self):
        for number in (0, 1, 9, 10, 99, 100, 240, 999):
            for low in range(number - 2, number + 3):
                for high in range(number - 2, number + 3):
                    told = figured(str(number), low, high)
                    if low <= number <= high:
                        self.assert_number(told, number)
                    else:
                        self.assertIsNone(told)

    def test_one_number_alone_and_none_at_all(self):
        self.assert_number(figured("0", 0, 0), 0)
        self.assert_number(figured("999", 999, 999), 999)
        self.assertIsNone(figured("5", 6, 4))

    def test_great_bounds(self):
        self.assert_number(figured("999", -(10 ** 64), 10 ** 64), 999)
        self.assertIsNone(figured("999", 10 ** 64, 10 ** 65 - 1))
        self.assertIsNone(figured("0", -(10 ** 64), -1))

    def test_asked_again(self):
        self.assert_number(figured("12", 0, 99), 12)
        self.assertIsNone(figured("12", 0, 11))
        self.assert_number(figured("12", 0, 99), 12)


class IsName(unittest.TestCase):
    def test_one_to_eight_letters(self):
        for letter in "abcdefghijklmnopqrstuvwxyz":
            for length in range(1, 9):
                self.assertIs(is_name(letter * length), True)
        for word in ("a", "z", "north", "abcdefgh", "ijklmnop", "qrstuvwx", "yz"):
            self.assertIs(is_name(word), True, word)

    def test_none_nine_and_more(self):
        for word in ("", "abcdefghi", "a" * 9, "a" * 10, "a" * 9000):
            self.assertIs(is_name(word), False, word)

    def test_one_other_sign_anywhere(self):
        for sign in EVERY_SIGN:
            if "a" <= sign <= "z":
                continue
            for length in (0, 1, 2, 7, 8):
                for at in range(length + 1):
                    word = "abcdefgh"[:at] + sign + "abcdefgh"[at:length]
                    self.assertIs(is_name(word), False, repr(word))

    def test_great_letters(self):
        for word in ("A", "Z", "North", "nortH", "NORTH", "noRth"):
            self.assertIs(is_name(word), False, word)


if __name__ == "__main__":
    unittest.main()
