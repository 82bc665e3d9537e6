import itertools
import unittest

from cardshop.cards import card_of
from cardshop.sorter import deal_all, gather, log_of, pockets_of, put_back

SIGNS = " 0123456789ABCDEFGHIJKLMNOPQRSTUVWXYZ"


def card_at(column, sign, mark):
    """A card with a sign in a column, and letters by which it can be told from others elsewhere."""
    rest = ("Q" + mark) * 20
    return rest[:column - 1] + sign + rest[column:40]


def deck_of_texts(texts):
    return [card_of(text) for text in texts]


class Dealing(unittest.TestCase):

    def test_an_empty_deck(self):
        self.assertEqual(pockets_of([], 1), [[] for sign in SIGNS])
        self.assertEqual(len(pockets_of([], 40)), 37)
        self.assertEqual(log_of([], 1), [])

    def test_every_sign_has_its_pocket_by_rank(self):
        for column in [1, 36, 37, 40]:
            for rank, sign in enumerate(SIGNS):
                card = card_at(column, sign, "A")
                pockets = pockets_of([card], column)
                self.assertEqual(len(pockets), 37)
                self.assertEqual(pockets[rank], [card])
                self.assertEqual(sum([len(pocket) for pocket in pockets]), 1)
                self.assertEqual(log_of([card], column), [rank])

    def test_several_cards_in_the_decks_order(self):
        for column in [1, 2, 36, 37, 40]:
            deck = [card_at(column, "B", "1"), card_at(column, " ", "2"), card_at(column, "B", "3"),
                    card_at(column, "0", "4"), card_at(column, "Z", "5"), card_at(column, "B", "1")]
            pockets = pockets_of(deck, column)
            self.assertEqual(pockets[12], [deck[0], deck[2], deck[5]])
            self.assertEqual(pockets[0], [deck[1]])
            self.assertEqual(pockets[1], [deck[3]])
            self.assertEqual(pockets[36], [deck[4]])
            self.assertEqual(sum([len(pocket) for pocket in pockets]), 6)
            self.assertEqual(log_of(deck, column), [12, 0, 12, 1, 36, 12])

    def test_gather(self):
        one, two, three = deck_of_texts(["A", "B", "C"])
        self.assertEqual(gather([]), [])
        self.assertEqual(gather([[]]), [])
        self.assertEqual(gather([[two, one]]), [two, one])
        self.assertEqual(gather([[three], [], [two, one], [], [two]]), [three, two, one, two])

    def test_dealt_and_gathered(self):
        deck = deck_of_texts(["B1", "A1", " 1", "B0", "91"])
        self.assertEqual(gather(pockets_of(deck, 1)), deck_of_texts([" 1", "91", "A1", "B1", "B0"]))

    def test_what_is_told_is_the_askers_own(self):
        deck = deck_of_texts(["B", "A", "B"])
        kept = list(deck)
        pockets = pockets_of(deck, 1)
        log = log_of(deck, 1)
        gathered = gather([deck])
        pockets[12].append("X")
        pockets[0].append("Y")
        pockets.append([])
        log.append(99)
        gathered.append("Z")
        self.assertEqual(deck, kept)
        self.assertEqual(pockets_of(deck, 1)[12], [deck[0], deck[2]])
        self.assertEqual(pockets_of(deck, 1)[0], [])
        self.assertEqual(pockets_of(deck, 1)[1], [])
        self.assertEqual(log_of(deck, 1), [12, 11, 12])
        told = pockets_of(deck, 1)
        deck.append(kept[0])
        self.assertEqual(told[12], [kept[0], kept[2]])

    def test_gather_leaves_the_decks(self):
        some = [deck_of_texts(["A"]), deck_of_texts(["B"])]
        gathered = gather(some)
        gathered.append("X")
        self.assertEqual(some, [deck_of_texts(["A"]), deck_of_texts(["B"])])


class PuttingBack(unittest.TestCase):

    def test_what_was_dealt_is_the_deck_again(self):
        deck = deck_of_texts(["B1", "A2", " 3", "B4", "95", "A6", "B1"])
        for column in [1, 2, 36, 37, 40]:
            back = put_back(pockets_of(deck, column), log_of(deck, column))
            self.assertEqual(back, deck)
            self.assertIsNot(back, deck)
        self.assertEqual(put_back(pockets_of([], 3), log_of([], 3)), [])

    def test_pockets_of_any_number(self):
        one, two, three, four = deck_of_texts(["1", "2", "3", "4"])
        self.assertEqual(put_back([], []), [])
        self.assertEqual(put_back([[]], []), [])
        self.assertEqual(put_back([[], [], []], []), [])
        self.assertEqual(put_back([[one, two]], [0, 0]), [one, two])
        self.assertEqual(put_back([[one, two], [three, four]], [1, 0, 0, 1]), [three, one, two, four])
        self.assertEqual(put_back([[], [one, one], [], [two]], [1, 3, 1]), [one, two, one])
        many = [[] for number in range(60)]
        many[59] = [four, three]
        many[2] = [one]
        self.assertEqual(put_back(many, [59, 2, 59]), [four, one, three])

    def test_every_log_of_five_cards(self):
        cards = deck_of_texts(["1", "2", "3", "4", "5"])
        for log in itertools.product(range(3), repeat=5):
            some = [[], [], []]
            for card, number in zip(cards, log):
                some[number].append(card)
            self.assertEqual(put_back(some, list(log)), cards)

    def test_what_was_handed_in_stays(self):
        one, two = deck_of_texts(["1", "2"])
        some = [[one], [two]]
        log = [1, 0]
        back = put_back(some, log)
        back.append("X")
        self.assertEqual(some, [[one], [two]])
        self.assertEqual(log, [1, 0])
        self.assertEqual(put_back(some, log), [two, one])


class DealingAll(unittest.TestCase):

    DECK = deck_of_texts(["B1X", "A2Y", "B0X", "A1Z", " 9X", "B1W", "A2Y"])

    def ordered(self, columns):
        return sorted(self.DECK, key=lambda card: [SIGNS.index(card[column - 1]) for column in columns])

    def test_no_column(self):
        dealt = deal_all(self.DECK, [])
        self.assertEqual(dealt, self.DECK)
        self.assertIsNot(dealt, self.DECK)

    def test_one_column_leaves_alike_cards_as_they_were(self):
        self.assertEqual(deal_all(self.DECK, [1]),
                         deck_of_texts([" 9X", "A2Y", "A1Z", "A2Y", "B1X", "B0X", "B1W"]))

    def test_several_columns(self):
        self.assertEqual(deal_all(self.DECK, [2, 1]),
                         deck_of_texts([" 9X", "A1Z", "A2Y", "A2Y", "B0X", "B1X", "B1W"]))
        self.assertEqual(deal_all(self.DECK, [1, 2]),
                         deck_of_texts(["B0X", "A1Z", "B1X", "B1W", "A2Y", "A2Y", " 9X"]))

    def test_every_row_of_up_to_four_columns(self):
        for length in range(5):
            for row in itertools.product([1, 2, 3, 37], repeat=length):
                self.assertEqual(deal_all(self.DECK, list(row)), self.ordered(row[::-1]), row)

    def test_a_column_twice(self):
        self.assertEqual(deal_all(self.DECK, [1, 2, 1]), deal_all(self.DECK, [2, 1]))
        self.assertEqual(deal_all(self.DECK, [1, 1]), deal_all(self.DECK, [1]))

    def test_what_was_handed_in_stays(self):
        deck = list(self.DECK)
        row = [2, 1]
        dealt = deal_all(deck, row)
        dealt.append("X")
        self.assertEqual(deck, self.DECK)
        self.assertEqual(row, [2, 1])


if __name__ == "__main__":
    unittest.main()
