import itertools
import unittest

from cardshop.cards import is_card, mark_of
from cardshop.partings import begins_with, crossed_deck, parting_of
from cardshop.passes import pass_all, sense_of
from cardshop.sorter import deal_all

PASSES = [("deal", 1), ("deal", 2), ("deal", 36), ("pick", 1, "A"), ("pick", 1, " "), ("pick", 1, "0"),
          ("pick", 2, "1")]


class PartingOf(unittest.TestCase):

    def check(self, row, other):
        kept = (list(row), list(other))
        deck = parting_of(row, other)
        self.assertEqual((row, other), kept)
        if sense_of(row) == sense_of(other):
            self.assertIsNone(deck)
            return
        self.assertIsInstance(deck, list)
        self.assertIn(len(deck), [1, 2])
        for card in deck:
            self.assertTrue(is_card(card), card)
        self.assertEqual(len({mark_of(card) for card in deck}), len(deck))
        self.assertNotEqual(pass_all(deck, row), pass_all(deck, other), (row, other, deck))

    def test_equal_senses(self):
        for row, other in [
            ([], []),
            ([("deal", 1)], [("deal", 1), ("deal", 1)]),
            ([("deal", 1), ("deal", 2), ("deal", 1)], [("deal", 2), ("deal", 1)]),
            ([("pick", 3, "A"), ("deal", 1)], [("deal", 3), ("deal", 1), ("pick", 3, "A")]),
            ([("pick", 3, "A"), ("pick", 4, "B")], [("pick", 4, "B"), ("pick", 3, "A"), ("pick", 4, "B")]),
            ([("pick", 3, "A"), ("pick", 3, "B")], [("deal", 5), ("pick", 1, " "), ("pick", 1, "0")]),
        ]:
            self.assertIsNone(parting_of(row, other))
            self.assertIsNone(parting_of(other, row))

    def test_other_picks(self):
        for row, other in [
            ([("pick", 3, "A")], []),
            ([("pick", 3, "A")], [("pick", 4, "A")]),
            ([("pick", 3, "A"), ("pick", 4, "B")], [("pick", 4, "B")]),
            ([("pick", 3, " ")], []),
            ([("pick", 36, "0")], [("deal", 36)]),
            ([("pick", 36, "1")], [("deal", 36)]),
        ]:
            self.check(row, other)
            self.check(other, row)

    def test_other_signs(self):
        for row, other in [
            ([("pick", 3, "A")], [("pick", 3, "B")]),
            ([("pick", 3, " ")], [("pick", 3, "0")]),
            ([("pick", 3, "0")], [("pick", 3, "1")]),
            ([("pick", 3, "0"), ("pick", 4, "A")], [("pick", 4, "B"), ("pick", 3, "0")]),
        ]:
            self.check(row, other)
            self.check(other, row)

    def test_another_order_of_deals(self):
        for row, other in [
            ([("deal", 1), ("deal", 2)], [("deal", 2), ("deal", 1)]),
            ([("deal", 1)], [("deal", 2)]),
            ([("deal", 1)], []),
            ([("deal", 2), ("deal", 1)], [("deal", 1)]),
            ([("deal", 3), ("deal", 2), ("deal", 1)], [("deal", 2), ("deal", 3), ("deal", 1)]),
            ([("deal", 36), ("pick", 4, "1"), ("deal", 35)], [("pick", 4, "1"), ("deal", 35)]),
        ]:
            self.check(row, other)
            self.check(other, row)

    def test_one_sense_none(self):
        nothing = [("pick", 5, "A"), ("pick", 5, "B")]
        for other in [[], [("deal", 5)], [("pick", 5, "A")], [("pick", 5, "B"), ("pick", 6, " "), ("deal", 1)]]:
            self.check(nothing, other)
            self.check(other, nothing)

    def test_every_two_short_rows(self):
        rows = []
        for length in range(4):
            rows.extend([list(row) for row in itertools.product(PASSES[::2], repeat=length)])
        rows.extend([list(row) for row in itertools.product(PASSES, repeat=2)])
        for row in rows:
            for other in rows:
                self.check(row, other)

    def test_rows_of_a_hundred_passes(self):
        row = [("deal", 1 + place * 7 % 36) for place in range(100)]
        self.check(row, row[1:])
        self.check(row, row[:-1])
        self.check(row + [("pick", 36, "Z")], row)

    def test_all_columns_picked(self):
        row = [("pick", column, "A") for column in range(1, 37)]
        self.check(row, row[1:])
        self.check(row, row[:-1] + [("pick", 36, "B")])
        self.check(row, row + [("deal", 4)])

    def test_what_is_told_is_the_askers_own(self):
        row, other = [("deal", 1)], [("deal", 2)]
        deck = parting_of(row, other)
        kept = list(deck)
        deck.append("X")
        self.assertEqual(parting_of(row, other), kept)


class CrossedDeck(unittest.TestCase):

    def test_one_order_turns_about_and_the_other_leaves(self):
        lists = [list(columns) for length in range(4) for columns in itertools.permutations([1, 2, 3, 36], length)]
        for one in lists:
            for other in lists:
                if not begins_with(other, one):
                    deck = crossed_deck({7: "Q"}, one, other)
                    self.assertEqual(deal_all(deck, other[::-1]), deck, (one, other))
                    self.assertEqual(deal_all(deck, one[::-1]), deck[::-1], (one, other))
                    self.assertEqual([card[6] for card in deck], ["Q", "Q"])


if __name__ == "__main__":
    unittest.main()
