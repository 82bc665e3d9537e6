import unittest

from cardshop.cards import is_card
from cardshop.errors import NoField
from cardshop.fields import (are_apart, columns_of, field_of, number_of, part_of, punch_in, read_field,
                             shown_field)

FIELDS = [(first, last) for first in range(1, 37) for last in range(first, 37)]
FULL = "ABCDEFGHIJKLMNOPQRSTUVWXYZ 0123456789XYZ"


class Fields(unittest.TestCase):

    def test_every_field(self):
        self.assertEqual(len(FIELDS), 666)
        for first, last in FIELDS:
            field = field_of(first, last)
            self.assertIsInstance(field, tuple)
            self.assertEqual(field, (first, last))

    def test_edges(self):
        self.assertEqual(field_of(1, 1), (1, 1))
        self.assertEqual(field_of(36, 36), (36, 36))
        self.assertEqual(field_of(1, 36), (1, 36))

    def test_what_makes_no_field_is_refused(self):
        large = 10 ** 60
        for first, last in [(0, 0), (0, 1), (0, 36), (37, 37), (1, 37), (36, 37), (37, 40), (40, 40), (-1, 1),
                            (-1, -1), (-5, -3), (1, 0), (1, -1), (2, 1), (36, 1), (36, 35), (0, 37), (37, 36),
                            (1, large), (large, large), (large, 1), (-large, 1), (-large, large),
                            (1, 10 ** 5000), (10 ** 5000, 10 ** 5000), (-10 ** 5000, 3)]:
            with self.assertRaises(NoField):
                field_of(first, last)

    def test_truths_are_no_whole_numbers(self):
        for first, last in [(True, 1), (1, True), (True, True), (False, 3), (True, 36)]:
            with self.assertRaises(NoField):
                field_of(first, last)

    def test_columns(self):
        self.assertEqual(columns_of((1, 1)), [1])
        self.assertEqual(columns_of((36, 36)), [36])
        self.assertEqual(columns_of((3, 6)), [3, 4, 5, 6])
        self.assertEqual(columns_of((1, 36)), list(range(1, 37)))
        for first, last in FIELDS:
            columns = columns_of((first, last))
            self.assertIsInstance(columns, list)
            self.assertEqual(columns, [column for column in range(1, 37) if first <= column <= last])

    def test_columns_are_the_askers_own(self):
        field = field_of(2, 5)
        mine = columns_of(field)
        yours = columns_of(field)
        mine.append(99)
        mine[0] = 7
        self.assertEqual(yours, [2, 3, 4, 5])
        self.assertEqual(columns_of(field), [2, 3, 4, 5])
        self.assertEqual(field, (2, 5))
        self.assertIsNot(columns_of(field), columns_of(field))

    def test_apart(self):
        cases = [
            ((1, 3), (4, 6), True),
            ((1, 3), (5, 6), True),
            ((1, 1), (2, 2), True),
            ((1, 35), (36, 36), True),
            ((1, 3), (3, 6), False),
            ((1, 4), (3, 6), False),
            ((1, 9), (3, 6), False),
            ((1, 9), (1, 6), False),
            ((1, 9), (6, 9), False),
            ((1, 9), (1, 1), False),
            ((1, 9), (9, 9), False),
            ((5, 5), (5, 5), False),
            ((1, 36), (1, 36), False),
        ]
        for one, other, apart in cases:
            self.assertIs(are_apart(one, other), apart, (one, other))
            self.assertIs(are_apart(other, one), apart, (other, one))

    def test_apart_where_no_column_is_shared(self):
        for one in FIELDS[::5]:
            for other in FIELDS:
                shared = [column for column in range(one[0], one[1] + 1) if other[0] <= column <= other[1]]
                self.assertIs(are_apart(one, other), shared == [], (one, other))


class Parts(unittest.TestCase):

    def test_parts(self):
        self.assertEqual(part_of(FULL, (1, 1)), "A")
        self.assertEqual(part_of(FULL, (1, 3)), "ABC")
        self.assertEqual(part_of(FULL, (26, 28)), "Z 0")
        self.assertEqual(part_of(FULL, (36, 36)), "8")
        self.assertEqual(part_of(FULL, (34, 36)), "678")
        self.assertEqual(part_of(FULL, (1, 36)), "ABCDEFGHIJKLMNOPQRSTUVWXYZ 012345678")
        self.assertEqual(part_of(" " * 40, (5, 8)), "    ")

    def test_parts_of_every_field(self):
        for first, last in FIELDS:
            wanted = "".join([FULL[column - 1] for column in range(first, last + 1)])
            self.assertEqual(part_of(FULL, (first, last)), wanted)

    def test_numbers(self):
        cases = [
            ("    ", 0), ("0000", 0), ("0007", 7), ("1234", 1234), ("9999", 9999), ("7000", 7000),
            ("   7", 7), ("7   ", 7000), (" 7 5", 705), ("1A3Z", 1030), ("ABCD", 0), ("A 12", 12),
            ("1  A", 1000), ("Z9ZZ", 900),
        ]
        for part, number in cases:
            for first in [1, 17, 33]:
                card = ("9" * (first - 1) + part).ljust(40, "9")
                self.assertEqual(number_of(card, (first, first + 3)), number, part)

    def test_numbers_of_one_column(self):
        for sign in " 0123456789ABCDEFGHIJKLMNOPQRSTUVWXYZ":
            card = "9" * 35 + sign + "9999"
            wanted = int(sign) if sign in "0123456789" else 0
            self.assertEqual(number_of(card, (36, 36)), wanted, sign)

    def test_numbers_of_the_widest_field(self):
        self.assertEqual(number_of("9" * 40, (1, 36)), 10 ** 36 - 1)
        self.assertEqual(number_of(" " * 40, (1, 36)), 0)
        self.assertEqual(number_of(FULL, (1, 36)), 12345678)

    def test_numbers_are_no_truths(self):
        number = number_of("1" * 40, (1, 1))
        self.assertIsInstance(number, int)
        self.assertNotIsInstance(number, bool)


class Punching(unittest.TestCase):

    def punched(self, field, value):
        card = punch_in(FULL, field, value)
        self.assertIs(is_card(card), True)
        self.assertEqual(card[:field[0] - 1], FULL[:field[0] - 1])
        self.assertEqual(card[field[1]:], FULL[field[1]:])
        return card[field[0] - 1:field[1]]

    def test_narrower_than_the_field(self):
        self.assertEqual(self.punched((3, 6), 7), "0007")
        self.assertEqual(self.punched((3, 6), 123), "0123")

    def test_just_as_wide(self):
        self.assertEqual(self.punched((3, 6), 1234), "1234")
        self.assertEqual(self.punched((3, 6), 9999), "9999")

    def test_wider(self):
        self.assertEqual(self.punched((3, 6), 10000), "0000")
        self.assertEqual(self.punched((3, 6), 12345), "2345")
        self.assertEqual(self.punched((3, 6), 70008), "0008")
        self.assertEqual(self.punched((3, 6), 10 ** 60 - 1), "9999")

    def test_nought(self):
        self.assertEqual(self.punched((3, 6), 0), "0000")
        self.assertEqual(self.punched((1, 1), 0), "0")
        self.assertEqual(self.punched((1, 36), 0), "0" * 36)

    def test_below_nought(self):
        self.assertEqual(self.punched((3, 6), -1), "9999")
        self.assertEqual(self.punched((3, 6), -2), "9998")
        self.assertEqual(self.punched((3, 6), -9999), "0001")
        self.assertEqual(self.punched((3, 6), -10000), "0000")
        self.assertEqual(self.punched((3, 6), -10001), "9999")
        self.assertEqual(self.punched((1, 36), -1), "9" * 36)
        self.assertEqual(self.punched((7, 7), -3), "7")

    def test_at_both_ends(self):
        self.assertEqual(punch_in(FULL, (1, 2), 5), "05CDEFGHIJKLMNOPQRSTUVWXYZ 0123456789XYZ")
        self.assertEqual(punch_in(FULL, (36, 36), 5), "ABCDEFGHIJKLMNOPQRSTUVWXYZ 0123456759XYZ")
        self.assertEqual(punch_in(FULL, (1, 36), 5), "0" * 35 + "5" + "9XYZ")

    def test_every_field(self):
        for field in FIELDS:
            width = field[1] - field[0] + 1
            for value in [0, 7, 10 ** width - 1, 10 ** width, 10 ** width + 3, -1, -(10 ** width), 31415926535897]:
                rest = value % 10 ** width
                self.assertEqual(self.punched(field, value), f"{rest:0{width}d}", (field, value))
                self.assertEqual(number_of(punch_in(FULL, field, value), field), rest)


class FieldTexts(unittest.TestCase):

    def test_each_field_written_and_read_again(self):
        for field in FIELDS:
            self.assertEqual(read_field(shown_field(field)), field)

    def test_written(self):
        self.assertEqual(shown_field((7, 7)), "7")
        self.assertEqual(shown_field((1, 1)), "1")
        self.assertEqual(shown_field((36, 36)), "36")
        self.assertEqual(shown_field((7, 8)), "7-8")
        self.assertEqual(shown_field((1, 36)), "1-36")
        self.assertEqual(shown_field((10, 20)), "10-20")

    def test_read(self):
        for text, field in [("7", (7, 7)), ("1", (1, 1)), ("36", (36, 36)), ("7-8", (7, 8)), ("1-36", (1, 36)),
                            ("10-20", (10, 20))]:
            read = read_field(text)
            self.assertIsInstance(read, tuple)
            self.assertEqual(read, field)

    def test_what_writes_no_field_is_refused(self):
        texts = ["", " ", "-", "--", "7-7", "1-1", "36-36", "07", "007", "07-9", "7-09", "00", "0", "0-0", "0-3",
                 "37", "37-37", "36-37", "1-37", "37-40", "40", "100", "9-3", "2-1", "-3", "--3", "3-", "-3-5",
                 "3--5", "3-5-", "3-5-7", "3-3-3", " 3", "3 ", " 3-5", "3-5 ", "3 -5", "3- 5", "3 - 5", "3 5",
                 "3\n", "3-5\n", "\n3", "\t3", "3\t", "+3", "3-+5", "1_0", "3.0", "3,5", "3..5", "3>5", "A", "3A",
                 "A3", "A-B", "3-B", "(3, 5)", "0x3", "1e1", "\u0663", "\u00b2", "\uff13", "3\u20135", "3-\uff15",
                 "3\u00a0", "1" * 9000, "1-" + "9" * 8998, "0" * 9000, "-" * 9000]
        for text in texts:
            with self.assertRaises(NoField, msg=repr(text[:40])):
                read_field(text)

    def test_every_pair_of_columns(self):
        for first in range(0, 41):
            for last in range(0, 41):
                text = f"{first}-{last}"
                if 1 <= first < last <= 36:
                    self.assertEqual(read_field(text), (first, last))
                else:
                    with self.assertRaises(NoField, msg=text):
                        read_field(text)


if __name__ == "__main__":
    unittest.main()
