import itertools
import unittest

from cardshop.boards import copy_deck, lay_out, make_board
from cardshop.cards import card_of, is_card, mark_of
from cardshop.errors import Meet, NoBoard

FULL = "ABCDEFGHIJKLMNOPQRSTUVWXYZ 0123456789XYZ"


class Making(unittest.TestCase):

    def meet(self, wires, one, other):
        with self.assertRaises(Meet) as taken:
            make_board(wires)
        self.assertEqual((taken.exception.one, taken.exception.other), (one, other))

    def test_no_wires(self):
        self.assertEqual(make_board([]), [])

    def test_wires_in_any_order(self):
        board = [(9, 1), (40, 2), (9, 7), (1, 36)]
        for wires in itertools.permutations(board):
            self.assertEqual(make_board(list(wires)), board)

    def test_sorted_as_numbers(self):
        self.assertEqual(make_board([(1, 10), (1, 9), (1, 2)]), [(1, 2), (1, 9), (1, 10)])

    def test_the_columns_bounds(self):
        for wire in [(1, 1), (37, 1), (40, 1), (40, 36), (1, 36)]:
            self.assertEqual(make_board([wire]), [wire])
        for wire in [(0, 1), (41, 1), (1, 0), (1, 37), (1, 40), (1, 41), (-1, 1), (1, -1), (0, 0), (41, 37),
                     (10 ** 60, 1), (1, 10 ** 60)]:
            with self.assertRaises(NoBoard, msg=wire):
                make_board([wire])
            with self.assertRaises(NoBoard, msg=wire):
                make_board([(1, 2), wire])

    def test_a_column_beyond_behind_two_that_meet(self):
        for wire in [(0, 1), (41, 9), (1, 37), (1, 0)]:
            with self.assertRaises(NoBoard):
                make_board([(1, 2), (3, 2), wire])
            with self.assertRaises(NoBoard):
                make_board([wire, (1, 2), (3, 2)])

    def test_two_that_meet(self):
        self.meet([(1, 2), (3, 2)], (1, 2), (3, 2))
        self.meet([(3, 2), (1, 2)], (3, 2), (1, 2))
        self.meet([(9, 9), (3, 2), (8, 8), (1, 2), (7, 7)], (3, 2), (1, 2))

    def test_three_that_meet(self):
        self.meet([(5, 2), (3, 2), (1, 2)], (5, 2), (3, 2))

    def test_two_pairs_that_meet(self):
        self.meet([(1, 2), (1, 3), (4, 3), (5, 2)], (1, 3), (4, 3))
        self.meet([(1, 2), (1, 3), (5, 2), (4, 3)], (1, 2), (5, 2))

    def test_two_alike(self):
        self.meet([(1, 2), (1, 2)], (1, 2), (1, 2))

    def test_what_was_handed_in_stays(self):
        wires = [(1, 9), (2, 3)]
        board = make_board(wires)
        board.append("X")
        self.assertEqual(wires, [(1, 9), (2, 3)])
        self.assertEqual(make_board(wires), [(2, 3), (1, 9)])
        ready = [(2, 3), (1, 9)]
        self.assertIsNot(make_board(ready), ready)


class Laying(unittest.TestCase):

    def test_no_wires(self):
        self.assertEqual(lay_out(FULL, []), " " * 36)

    def test_one_sign_to_several_columns(self):
        self.assertEqual(lay_out(FULL, [(2, 1), (2, 3), (1, 36)]), "B B" + " " * 32 + "A")

    def test_from_the_marks_columns(self):
        self.assertEqual(lay_out(FULL, [(37, 1), (38, 2), (39, 3), (40, 36)]), "9XY" + " " * 32 + "Z")

    def test_all_columns(self):
        self.assertEqual(lay_out(FULL, [(column, column) for column in range(1, 37)]), FULL[:36])
        self.assertEqual(lay_out(FULL, [(column + 4, column) for column in range(1, 37)]), FULL[4:])
        self.assertEqual(lay_out(FULL, [(41 - column, column) for column in range(1, 37)]), FULL[:3:-1])

    def test_copies_keep_the_mark(self):
        deck = [FULL, card_of("XY"), "X" * 36 + " 1 2"]
        board = [(2, 1), (40, 36)]
        self.assertEqual(copy_deck(deck, board), [
            "B" + " " * 34 + "Z9XYZ", "Y" + " " * 39, "X" + " " * 34 + "2 1 2"])
        for card, copied in zip(deck, copy_deck(deck, [])):
            self.assertEqual(copied, " " * 36 + mark_of(card))
            self.assertTrue(is_card(copied))
        self.assertEqual(copy_deck([], board), [])

    def test_what_was_handed_in_stays(self):
        deck, board = [FULL], [(1, 2)]
        copies = copy_deck(deck, board)
        copies.append("X")
        self.assertEqual((deck, board), ([FULL], [(1, 2)]))


if __name__ == "__main__":
    unittest.main()
