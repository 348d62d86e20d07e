import unittest

from namewell.rows import is_kind, is_value, read_life


class KindTest(unittest.TestCase):
    def test_kinds(self):
        for text in ("a", "z", "door", "text", "else", "down", "abcdefgh", "stuvwxyz", "zone"):
            with self.subTest(text):
                self.assertIs(is_kind(text), True)

    def test_no_kinds(self):
        for text in ("", "abcdefghi", "Door", "DOOR", "d0", "a-b", "a b", " a", "a ", "a.", "*", "@", "a\n", "\n",
                     "\xe9", "a" * 10000):
            with self.subTest(text):
                self.assertIs(is_kind(text), False)


class ValueTest(unittest.TestCase):
    def test_each_sign(self):
        for number in range(0, 300):
            sign = chr(number)
            expected = "!" <= sign <= "~" and number != 37
            for text in (sign, "a" + sign, sign + "a", "a" + sign + "b"):
                with self.subTest(text):
                    self.assertIs(is_value(text), expected)

    def test_lengths(self):
        self.assertIs(is_value(""), False)
        self.assertIs(is_value("x"), True)
        self.assertIs(is_value("x" * 40), True)
        self.assertIs(is_value("x" * 41), False)
        self.assertIs(is_value("x" * 10000), False)


class LifeTest(unittest.TestCase):
    def test_lives(self):
        for text, life in (("0", 0), ("1", 1), ("9", 9), ("10", 10), ("100", 100), ("1234567890"[:9], 123456789),
                           ("999999999", 999999999), ("100000000", 100000000)):
            with self.subTest(text):
                self.assertEqual(read_life(text), life)
                self.assertIs(read_life(text).__class__, int)

    def test_no_lives(self):
        for text in ("", "00", "01", "000000000", "007", "1000000000", "9999999999", "0000000001", "-1", "+1", "1_0",
                     " 1", "1 ", "1 2", "1.0", "1e3", "a", "x1", "1x", "1\n", "\n", "\u0663", "\xb2", "9" * 10000):
            with self.subTest(text):
                self.assertIsNone(read_life(text))


if __name__ == "__main__":
    unittest.main()
