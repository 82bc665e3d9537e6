import unittest

from cardshop.cards import is_card
from cardshop.punch import work_card

CARD = "0012 034ABCDEFGHIJKLMNOPQRSTUVWXYZ  99XY"


class Works(unittest.TestCase):

    def worked(self, to, one, word, other):
        card = work_card(CARD, (to, one, word, other))
        self.assertTrue(is_card(card))
        self.assertEqual(card[:to[0] - 1], CARD[:to[0] - 1])
        self.assertEqual(card[to[1]:], CARD[to[1]:])
        return card[to[0] - 1:to[1]]

    def test_each_word(self):
        self.assertEqual(self.worked((20, 23), (1, 4), "plus", (5, 8)), "0046")
        self.assertEqual(self.worked((20, 23), (5, 8), "less", (1, 4)), "0022")
        self.assertEqual(self.worked((20, 23), (1, 4), "times", (5, 8)), "0408")

    def test_a_difference_below_nought(self):
        self.assertEqual(self.worked((20, 23), (1, 4), "less", (5, 8)), "9978")
        self.assertEqual(self.worked((20, 20), (1, 4), "less", (5, 8)), "8")

    def test_wider_than_the_field(self):
        self.assertEqual(self.worked((20, 20), (1, 4), "plus", (5, 8)), "6")
        self.assertEqual(self.worked((20, 21), (1, 4), "times", (5, 8)), "08")
        self.assertEqual(work_card("9" * 40, ((1, 2), (1, 36), "times", (1, 36)))[:3], "019")

    def test_other_signs_are_noughts(self):
        self.assertEqual(self.worked((20, 23), (9, 12), "plus", (1, 4)), "0012")
        self.assertEqual(self.worked((20, 23), (9, 12), "times", (1, 4)), "0000")

    def test_fields_that_overlap(self):
        self.assertEqual(self.worked((3, 6), (1, 4), "plus", (3, 4)), "0024")
        self.assertEqual(self.worked((1, 4), (1, 4), "times", (1, 4)), "0144")
        self.assertEqual(self.worked((1, 36), (1, 4), "plus", (1, 4)), "24".zfill(36))
        self.assertEqual(self.worked((36, 36), (1, 4), "less", (1, 4)), "0")


if __name__ == "__main__":
    unittest.main()
