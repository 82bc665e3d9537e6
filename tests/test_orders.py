import unittest

from cardshop.cards import card_of
from cardshop.orders import comes_ahead, out_at, put_in_order

SIGNS = " 0123456789ABCDEFGHIJKLMNOPQRSTUVWXYZ"


def deck_of_texts(texts):
    return [card_of(text) for text in texts]


class ComesAhead(unittest.TestCase):

    def test_every_two_signs(self):
        for rank, sign in enumerate(SIGNS):
            for other_rank, other in enumerate(SIGNS):
                for column in [1, 17, 36, 37, 40]:
                    card = "M" * (column - 1) + sign + "M" * (40 - column)
                    against = "M" * (column - 1) + other + "M" * (40 - column)
                    self.assertIs(comes_ahead(card, against, [column]), rank < other_rank)

    def test_no_columns(self):
        self.assertIs(comes_ahead(card_of("A"), card_of("B"), []), False)
        self.assertIs(comes_ahead(card_of("B"), card_of("A"), []), False)

    def test_a_column_told_twice(self):
        one, other = card_of("AB"), card_of("AC")
        self.assertIs(comes_ahead(one, other, [1, 1, 2, 2]), True)
        self.assertIs(comes_ahead(other, one, [1, 1, 2, 2]), False)
        self.assertIs(comes_ahead(one, other, [1, 1]), False)

    def test_alike_in_all_columns_told(self):
        one, other = card_of("AXB"), card_of("AYB")
        self.assertIs(comes_ahead(one, other, [1, 3]), False)
        self.assertIs(comes_ahead(other, one, [1, 3]), False)
        self.assertIs(comes_ahead(one, one, [1, 2, 3]), False)

    def test_the_first_unlike_column_decides(self):
        one, other = card_of("A9"), card_of("B0")
        self.assertIs(comes_ahead(one, other, [1, 2]), True)
        self.assertIs(comes_ahead(other, one, [1, 2]), False)
        self.assertIs(comes_ahead(one, other, [2, 1]), False)
        self.assertIs(comes_ahead(other, one, [2, 1]), True)
        self.assertIs(comes_ahead(one, other, [3, 40, 2, 1]), False)

    def test_the_mark_counts_where_it_is_told(self):
        one, other = "X" * 36 + "0001", "X" * 36 + "0002"
        self.assertIs(comes_ahead(one, other, [36, 37, 38, 39]), False)
        self.assertIs(comes_ahead(one, other, [40]), True)

    def test_the_list_handed_in_stays(self):
        columns = [2, 1, 2]
        comes_ahead(card_of("AB"), card_of("BA"), columns)
        self.assertEqual(columns, [2, 1, 2])


class OutAt(unittest.TestCase):

    def test_none_and_one_card(self):
        self.assertIsNone(out_at([], [1, 2]))
        self.assertIsNone(out_at([card_of("Z")], [1, 2]))
        self.assertIsNone(out_at([], []))

    def test_in_order(self):
        deck = deck_of_texts(["", "0", "1", "9", "A", "A", "Z"])
        self.assertIsNone(out_at(deck, [1]))
        self.assertIsNone(out_at(deck, [1, 2, 3]))

    def test_no_columns_are_always_in_order(self):
        self.assertIsNone(out_at(deck_of_texts(["C", "B", "A"]), []))

    def test_alike_cards_are_in_order(self):
        self.assertIsNone(out_at(deck_of_texts(["B", "B", "B"]), [1]))

    def test_the_first_such_place(self):
        self.assertEqual(out_at(deck_of_texts(["B", "A"]), [1]), 1)
        self.assertEqual(out_at(deck_of_texts(["A", "B", "A", "0"]), [1]), 2)
        self.assertEqual(out_at(deck_of_texts(["A", "B", "C", "B", "D", "A"]), [1]), 3)
        self.assertEqual(out_at(deck_of_texts(["A", "B", "C", "D", ""]), [1]), 4)

    def test_a_card_is_held_against_the_one_before_it(self):
        # C is less than D, which stands two ahead of it, but not less than B.
        self.assertEqual(out_at(deck_of_texts(["D", "B", "C"]), [1]), 1)

    def test_by_several_columns(self):
        deck = deck_of_texts(["A9", "B0", "B1", "B0"])
        self.assertEqual(out_at(deck, [1, 2]), 3)
        self.assertIsNone(out_at(deck, [1]))
        self.assertEqual(out_at(deck, [2, 1]), 1)

    def test_what_was_handed_in_stays(self):
        deck = deck_of_texts(["B", "A"])
        kept = list(deck)
        columns = [1]
        out_at(deck, columns)
        self.assertEqual((deck, columns), (kept, [1]))


class PutInOrder(unittest.TestCase):

    def test_cards_alike_stay_as_they_were(self):
        deck = deck_of_texts(["B1", "A2", "B0", "A1", " 9"])
        self.assertEqual(put_in_order(deck, [1]), deck_of_texts([" 9", "A2", "A1", "B1", "B0"]))
        self.assertEqual(put_in_order(deck, [1, 2]), deck_of_texts([" 9", "A1", "A2", "B0", "B1"]))
        self.assertEqual(put_in_order(deck, []), deck)
        self.assertIsNot(put_in_order(deck, []), deck)


if __name__ == "__main__":
    unittest.main()
