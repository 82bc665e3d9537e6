import itertools
import unittest

from cardshop.cards import card_of
from cardshop.collator import first_cards, mate_decks, pour_decks
from cardshop.errors import NoField, NoOrder


def deck_of_texts(texts):
    return [card_of(text) for text in texts]


class Refused(unittest.TestCase):

    def refused(self, deed, deck, place):
        with self.assertRaises(NoOrder) as taken:
            deed()
        self.assertEqual((taken.exception.deck, taken.exception.place), (deck, place))


class Mates(unittest.TestCase):

    def test_no_cards(self):
        some = deck_of_texts(["A", "B"])
        self.assertEqual(mate_decks([], (1, 1), [], (1, 1)), ([], [], [], []))
        self.assertEqual(mate_decks(some, (1, 1), [], (1, 1)), ([], some, [], []))
        self.assertEqual(mate_decks([], (1, 1), some, (1, 1)), ([], [], [], some))

    def test_one_card_each(self):
        one, other = deck_of_texts(["AX"]), deck_of_texts(["AY"])
        self.assertEqual(mate_decks(one, (1, 1), other, (1, 1)), (one, [], other, []))
        self.assertEqual(mate_decks(one, (1, 2), other, (1, 2)), ([], one, [], other))

    def test_several_cards_of_one_part_on_either_side(self):
        one = deck_of_texts(["A3", "A1", "A2", "C9", "C8", "D0", "E1"])
        other = deck_of_texts(["A7", "A6", "B5", "B4", "D3", "D2", "D2"])
        told = mate_decks(one, (1, 1), other, (1, 1))
        self.assertIsInstance(told, tuple)
        self.assertEqual(told, (
            deck_of_texts(["A3", "A1", "A2", "D0"]), deck_of_texts(["C9", "C8", "E1"]),
            deck_of_texts(["A7", "A6", "D3", "D2", "D2"]), deck_of_texts(["B5", "B4"])))

    def test_fields_at_unlike_places(self):
        one = deck_of_texts(["  AB1", "  AB0", "  CD1", "  EF1"])
        other = ["X" * 34 + "AB" + "0001", "X" * 34 + "CC" + "0002", "X" * 34 + "EF" + "0003"]
        self.assertEqual(mate_decks(one, (3, 4), other, (35, 36)), (
            [one[0], one[1], one[3]], [one[2]], [other[0], other[2]], [other[1]]))

    def test_blanks_are_signs_like_others(self):
        one, other = deck_of_texts([" ", "0"]), deck_of_texts([" ", "1"])
        self.assertEqual(mate_decks(one, (1, 1), other, (1, 1)), ([one[0]], [one[1]], [other[0]], [other[1]]))

    def test_what_was_handed_in_stays(self):
        one, other = deck_of_texts(["A", "B"]), deck_of_texts(["B", "C"])
        told = mate_decks(one, (1, 1), other, (1, 1))
        for deck in told:
            deck.append("X")
        self.assertEqual((one, other), (deck_of_texts(["A", "B"]), deck_of_texts(["B", "C"])))


class Pouring(unittest.TestCase):

    def test_no_cards(self):
        some = deck_of_texts(["A", "B"])
        self.assertEqual(pour_decks([], (1, 1), [], (1, 1)), [])
        self.assertEqual(pour_decks(some, (1, 1), [], (1, 1)), some)
        self.assertEqual(pour_decks([], (1, 1), some, (1, 1)), some)

    def test_like_parts_on_both_sides(self):
        one, other = deck_of_texts(["A1", "A2", "B1"]), deck_of_texts(["A8", "A9", "B9"])
        self.assertEqual(pour_decks(one, (1, 1), other, (1, 1)), deck_of_texts(["A1", "A2", "A8", "A9", "B1", "B9"]))
        self.assertEqual(pour_decks(other, (1, 1), one, (1, 1)), deck_of_texts(["A8", "A9", "A1", "A2", "B9", "B1"]))

    def test_one_deck_run_out_ahead_of_the_other(self):
        one, other = deck_of_texts(["A", "B"]), deck_of_texts(["B0", "C", "D"])
        self.assertEqual(pour_decks(one, (1, 1), other, (1, 1)), deck_of_texts(["A", "B", "B0", "C", "D"]))
        self.assertEqual(pour_decks(other, (1, 1), one, (1, 1)), deck_of_texts(["A", "B0", "B", "C", "D"]))

    def test_by_ranks_and_sign_by_sign(self):
        one, other = deck_of_texts([" 9", "0A", "9 "]), deck_of_texts(["XX  ", "XX0 ", "XX99", "XXA "])
        self.assertEqual(pour_decks(one, (1, 2), other, (3, 4)),
                         [other[0], one[0], other[1], one[1], one[2], other[2], other[3]])

    def test_against_a_plain_order_with_the_one_first(self):
        texts = ["A1", "A2", "B1", "C1"]
        for picks in itertools.product(range(3), repeat=4):
            one = [card_of(text + "1") for text, where in zip(texts, picks) if where != 1]
            other = [card_of("Z" + text + "2") for text, where in zip(texts, picks) if where != 0]
            wanted = sorted([(card[0], 0, place, card) for place, card in enumerate(one)]
                            + [(card[1], 1, place, card) for place, card in enumerate(other)])
            self.assertEqual(pour_decks(one, (1, 1), other, (2, 2)), [row[3] for row in wanted])

    def test_what_was_handed_in_stays(self):
        one, other = deck_of_texts(["A", "C"]), deck_of_texts(["B", "D"])
        poured = pour_decks(one, (1, 1), other, (1, 1))
        poured.append("X")
        lone = pour_decks([], (1, 1), other, (1, 1))
        lone.append("X")
        self.assertEqual((one, other), (deck_of_texts(["A", "C"]), deck_of_texts(["B", "D"])))


class Firsts(unittest.TestCase):

    def test_no_cards(self):
        self.assertEqual(first_cards([], (1, 36)), ([], []))

    def test_parts_of_one_and_of_several_cards(self):
        deck = deck_of_texts(["A3", "A1", "A2", "B1", "C2", "C2", "D"])
        told = first_cards(deck, (1, 1))
        self.assertIsInstance(told, tuple)
        self.assertEqual(told, (deck_of_texts(["A3", "B1", "C2", "D"]), deck_of_texts(["A1", "A2", "C2"])))

    def test_one_part_alone(self):
        deck = deck_of_texts(["A3", "A1", "A2"])
        self.assertEqual(first_cards(deck, (1, 1)), (deck[:1], deck[1:]))
        self.assertEqual(first_cards(deck_of_texts(["A1", "A2", "A3"]), (1, 2))[1], [])

    def test_what_was_handed_in_stays(self):
        deck = deck_of_texts(["A", "B"])
        for told in first_cards(deck, (1, 1)):
            told.append("X")
        self.assertEqual(deck, deck_of_texts(["A", "B"]))


class Refusals(Refused):

    GOOD = deck_of_texts(["A", "B", "C"])
    # Out of order at 2 and again at 4; and at 1 and again at 2.
    BAD = deck_of_texts(["B", "C", "A", "D", "0"])
    WORSE = deck_of_texts(["C", "B", "A"])

    def test_either_deck_and_both(self):
        for deed in [mate_decks, pour_decks]:
            self.refused(lambda: deed(self.BAD, (1, 1), self.GOOD, (1, 1)), 1, 2)
            self.refused(lambda: deed(self.GOOD, (1, 1), self.BAD, (1, 1)), 2, 2)
            self.refused(lambda: deed(self.BAD, (1, 1), self.WORSE, (1, 1)), 2, 1)
            self.refused(lambda: deed(self.WORSE, (1, 1), self.BAD, (1, 1)), 2, 2)
            self.refused(lambda: deed(self.BAD, (1, 1), [], (1, 1)), 1, 2)
            self.refused(lambda: deed([], (1, 1), self.BAD, (1, 1)), 2, 2)

    def test_each_by_its_own_field(self):
        one, other = deck_of_texts(["AZ", "BY"]), deck_of_texts(["ZA", "YB"])
        self.assertEqual(mate_decks(one, (1, 1), other, (2, 2)), (one, [], other, []))
        self.refused(lambda: mate_decks(one, (2, 2), other, (2, 2)), 1, 1)
        self.refused(lambda: pour_decks(one, (1, 1), other, (1, 1)), 2, 1)

    def test_first_cards(self):
        self.refused(lambda: first_cards(self.BAD, (1, 1)), 1, 2)
        self.refused(lambda: first_cards(self.WORSE, (1, 3)), 1, 1)
        # Cards of one part that are parted by another one.
        self.refused(lambda: first_cards(deck_of_texts(["A", "B", "A"]), (1, 1)), 1, 2)

    def test_fields_of_unlike_width(self):
        for deed in [mate_decks, pour_decks]:
            for one in [self.GOOD, self.BAD, []]:
                for other in [self.GOOD, self.WORSE, []]:
                    for field, other_field in [((1, 1), (1, 2)), ((1, 2), (1, 1)), ((1, 36), (2, 36))]:
                        with self.assertRaises(NoField):
                            deed(one, field, other, other_field)


if __name__ == "__main__":
    unittest.main()
