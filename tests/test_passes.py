import unittest

from cardshop.cards import card_of
from cardshop.passes import pass_all, sense_of


def deck_of_texts(texts):
    return [card_of(text) for text in texts]


DECK = deck_of_texts(["B1X", "A2Y", "B0X", "A1Z", " 9X", "B1W", "A2Y"])


class PassAll(unittest.TestCase):

    def test_a_row_of_none(self):
        gone = pass_all(DECK, [])
        self.assertEqual(gone, DECK)
        self.assertIsNot(gone, DECK)
        self.assertEqual(pass_all([], []), [])

    def test_deals(self):
        self.assertEqual(pass_all(DECK, [("deal", 1)]),
                         deck_of_texts([" 9X", "A2Y", "A1Z", "A2Y", "B1X", "B0X", "B1W"]))
        self.assertEqual(pass_all(DECK, [("deal", 2), ("deal", 1)]),
                         deck_of_texts([" 9X", "A1Z", "A2Y", "A2Y", "B0X", "B1X", "B1W"]))
        self.assertEqual(pass_all([], [("deal", 36)]), [])

    def test_picks(self):
        self.assertEqual(pass_all(DECK, [("pick", 1, "B")]), deck_of_texts(["B1X", "B0X", "B1W"]))
        self.assertEqual(pass_all(DECK, [("pick", 1, "B"), ("pick", 2, "1")]), deck_of_texts(["B1X", "B1W"]))
        self.assertEqual(pass_all(DECK, [("pick", 1, " ")]), deck_of_texts([" 9X"]))
        self.assertEqual(pass_all(DECK, [("pick", 36, " ")]), DECK)

    def test_picks_that_no_card_passes(self):
        self.assertEqual(pass_all(DECK, [("pick", 1, "Z")]), [])
        self.assertEqual(pass_all(DECK, [("pick", 1, "A"), ("pick", 1, "B")]), [])
        self.assertEqual(pass_all(DECK, [("pick", 1, "Z"), ("deal", 1)]), [])

    def test_both(self):
        self.assertEqual(pass_all(DECK, [("deal", 2), ("pick", 1, "B"), ("deal", 3)]),
                         deck_of_texts(["B1W", "B0X", "B1X"]))
        self.assertEqual(pass_all(DECK, [("pick", 3, "X"), ("deal", 1)]), deck_of_texts([" 9X", "B1X", "B0X"]))

    def test_what_was_handed_in_stays(self):
        deck = list(DECK)
        row = [("deal", 1), ("pick", 1, "B")]
        gone = pass_all(deck, row)
        gone.append("X")
        self.assertEqual(deck, DECK)
        self.assertEqual(row, [("deal", 1), ("pick", 1, "B")])


class SenseOf(unittest.TestCase):

    def test_a_row_of_none(self):
        self.assertEqual(sense_of([]), ({}, []))

    def test_the_kinds(self):
        sense = sense_of([("deal", 3), ("pick", 1, "A")])
        self.assertIsInstance(sense, tuple)
        self.assertIsInstance(sense[0], dict)
        self.assertIsInstance(sense[1], list)

    def test_picks_of_one_column(self):
        self.assertIsNone(sense_of([("pick", 1, "A"), ("pick", 1, "B")]))
        self.assertIsNone(sense_of([("pick", 1, "A"), ("deal", 2), ("pick", 3, "A"), ("pick", 1, " ")]))
        self.assertEqual(sense_of([("pick", 1, "A"), ("pick", 1, "A")]), ({1: "A"}, []))
        self.assertEqual(sense_of([("pick", 1, "A"), ("pick", 2, "B")]), ({1: "A", 2: "B"}, []))
        self.assertEqual(sense_of([("pick", 1, " "), ("pick", 1, " ")]), ({1: " "}, []))

    def test_deals_from_the_last_one_back(self):
        self.assertEqual(sense_of([("deal", 1), ("deal", 2), ("deal", 3)]), ({}, [3, 2, 1]))

    def test_deals_of_one_column_several_times(self):
        self.assertEqual(sense_of([("deal", 1), ("deal", 2), ("deal", 1)]), ({}, [1, 2]))
        self.assertEqual(sense_of([("deal", 2), ("deal", 1), ("deal", 2), ("deal", 3), ("deal", 1), ("deal", 1)]),
                         ({}, [1, 3, 2]))

    def test_deals_of_picked_columns(self):
        self.assertEqual(sense_of([("deal", 1), ("pick", 1, "A")]), ({1: "A"}, []))
        self.assertEqual(sense_of([("pick", 1, "A"), ("deal", 1)]), ({1: "A"}, []))
        self.assertEqual(sense_of([("deal", 1), ("deal", 2), ("pick", 1, "A"), ("deal", 1), ("deal", 3)]),
                         ({1: "A"}, [3, 2]))

    def test_what_is_told_is_the_askers_own(self):
        row = [("deal", 1), ("pick", 2, "A")]
        sense = sense_of(row)
        sense[0][5] = "X"
        sense[1].append(9)
        self.assertEqual(sense_of(row), ({2: "A"}, [1]))
        self.assertEqual(row, [("deal", 1), ("pick", 2, "A")])


if __name__ == "__main__":
    unittest.main()
