import unittest

from cardshop.wholes import is_whole, number_by, read_whole, ten_to


class Wholes(unittest.TestCase):

    def test_what_a_whole_number_is(self):
        for value in [0, 1, -1, 36, 10 ** 60, -10 ** 60]:
            self.assertIs(is_whole(value), True, value)
        for value in [True, False, None, "1", 1.0, (1,), [1]]:
            self.assertIs(is_whole(value), False, value)

    def test_ten_to(self):
        for power in range(61):
            self.assertEqual(ten_to(power), 10 ** power)

    def test_number_by(self):
        self.assertEqual(number_by(""), 0)
        self.assertEqual(number_by("000"), 0)
        self.assertEqual(number_by("0123456789"), 123456789)

    def test_read_whole(self):
        for value in [0, 1, 9, 10, 36, 100, 10 ** 60]:
            self.assertEqual(read_whole(str(value)), value)
        for text in ["", "00", "01", " 1", "1 ", "+1", "-1", "1_0", "1\n", "A", "1A", "\u0663", "\u00b2", "\uff11"]:
            self.assertIsNone(read_whole(text), repr(text))


if __name__ == "__main__":
    unittest.main()
