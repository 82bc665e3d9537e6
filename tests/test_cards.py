import unittest

from cardshop.cards import card_of, is_card, mark_of, rank_of
from cardshop.errors import NoCard

RANKS = {
    " ": 0,
    "0": 1, "1": 2, "2": 3, "3": 4, "4": 5, "5": 6, "6": 7, "7": 8, "8": 9, "9": 10,
    "A": 11, "B": 12, "C": 13, "D": 14, "E": 15, "F": 16, "G": 17, "H": 18, "I": 19, "J": 20,
    "K": 21, "L": 22, "M": 23, "N": 24, "O": 25, "P": 26, "Q": 27, "R": 28, "S": 29, "T": 30,
    "U": 31, "V": 32, "W": 33, "X": 34, "Y": 35, "Z": 36,
}
# Among them figures, letters and blanks of other scripts, which Python's own tests would take.
OTHER_SIGNS = ["a", "z", "\n", "\r", "\t", "\0", "_", "-", "*", ".", "@", "[", "/", ":", "\u00a0", "\u00b2",
               "\u0663", "\u00c4", "\u0391", "\uff11", "\uff21", "\U0001d400"]
FULL = "ABCDEFGHIJKLMNOPQRSTUVWXYZ 0123456789XYZ"


class Ranks(unittest.TestCase):

    def test_every_sign(self):
        self.assertEqual(len(RANKS), 37)
        for sign, rank in RANKS.items():
            self.assertEqual(rank_of(sign), rank, sign)

    def test_every_other_text_of_one_sign_is_refused(self):
        for number in range(0x3000):
            sign = chr(number)
            if sign not in RANKS:
                with self.assertRaises(NoCard, msg=repr(sign)):
                    rank_of(sign)

    def test_texts_that_are_no_sign_are_refused(self):
        for text in OTHER_SIGNS + ["", "AB", "  ", "01", " 0", "A\n", "\nA", "A ", "AA", "a1", FULL,
                                   " 0123456789ABCDEFGHIJKLMNOPQRSTUVWXYZ"]:
            with self.assertRaises(NoCard, msg=repr(text)):
                rank_of(text)


class Cards(unittest.TestCase):

    def test_is_card_by_how_many_signs(self):
        self.assertIs(is_card("A" * 39), False)
        self.assertIs(is_card("A" * 40), True)
        self.assertIs(is_card("A" * 41), False)
        self.assertIs(is_card(""), False)
        self.assertIs(is_card(" " * 40), True)
        self.assertIs(is_card(" " * 41), False)
        self.assertIs(is_card("A" * 9000), False)

    def test_is_card_of_every_sign(self):
        self.assertEqual(len(FULL), 40)
        self.assertIs(is_card(FULL), True)
        for sign in RANKS:
            self.assertIs(is_card(sign * 40), True, sign)

    def test_is_card_with_another_sign_among_forty(self):
        for sign in OTHER_SIGNS:
            for place in [0, 1, 20, 38, 39]:
                text = FULL[:place] + sign + FULL[place + 1:]
                self.assertEqual(len(text), 40)
                self.assertIs(is_card(text), False, repr(text))

    def test_is_card_with_a_line_end_behind(self):
        self.assertIs(is_card(FULL + "\n"), False)
        self.assertIs(is_card(FULL[:39] + "\n"), False)

    def test_card_of_none_some_and_forty_signs(self):
        self.assertEqual(card_of(""), " " * 40)
        self.assertEqual(card_of("A"), "A" + " " * 39)
        self.assertEqual(card_of("  X 7"), "  X 7" + " " * 35)
        self.assertEqual(card_of(FULL[:39]), FULL[:39] + " ")
        self.assertEqual(card_of(FULL), FULL)
        self.assertEqual(card_of(" " * 40), " " * 40)

    def test_card_of_every_length_is_a_card(self):
        for length in range(41):
            card = card_of(FULL[:length])
            self.assertIs(is_card(card), True)
            self.assertEqual(card, FULL[:length] + " " * (40 - length))

    def test_card_of_too_many_signs_is_refused(self):
        for text in [FULL + "A", FULL + " ", " " * 41, "A" * 80, "A" * 9000]:
            with self.assertRaises(NoCard, msg=repr(text)):
                card_of(text)

    def test_card_of_another_sign_is_refused(self):
        for sign in OTHER_SIGNS:
            for text in [sign, "A" + sign, sign + "A", "A" * 39 + sign, "A" * 40 + sign]:
                with self.assertRaises(NoCard, msg=repr(text)):
                    card_of(text)

    def test_mark_of(self):
        self.assertEqual(mark_of(FULL), "9XYZ")
        self.assertEqual(mark_of(" " * 40), "    ")
        self.assertEqual(mark_of("A" * 36 + "    "), "    ")
        self.assertEqual(mark_of("A" * 36 + " 1 2"), " 1 2")
        self.assertEqual(mark_of(card_of("ABC")), "    ")


if __name__ == "__main__":
    unittest.main()
