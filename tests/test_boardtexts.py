import unittest

from cardshop.boards import make_board
from cardshop.boardtexts import read_board, shown_board
from cardshop.errors import Meet, NoBoard

# Boards with the very texts that write them.
TEXTS = [
    ([], ""),
    ([(5, 6)], "5>6"),
    ([(1, 1)], "1>1"),
    ([(40, 36)], "40>36"),
    ([(1, 1), (2, 2)], "1-2>1-2"),
    ([(1, 1), (2, 3)], "1>1, 2>3"),
    ([(1, 1), (3, 2)], "1>1, 3>2"),
    ([(2, 1), (1, 2)], "2>1, 1>2"),
    ([(1, 1), (1, 2), (1, 3)], "1>1, 1>2, 1>3"),
    ([(5, 1), (6, 2), (7, 3), (1, 4), (2, 5), (9, 7)], "5-7>1-3, 1-2>4-5, 9>7"),
    ([(9, 8), (10, 9), (11, 10), (12, 11)], "9-12>8-11"),
    ([(column, column) for column in range(1, 37)], "1-36>1-36"),
    ([(column + 4, column) for column in range(1, 37)], "5-40>1-36"),
    ([(1, 2), (2, 3), (1, 4), (2, 5)], "1-2>2-3, 1-2>4-5"),
    ([(37, 1), (38, 2), (40, 3)], "37-38>1-2, 40>3"),
]
WRONG = [
    " ", ",", ", ", "5", "5>", ">5", ">", "5>6>7", "5>>6", "5-6", "-", "->-", "5-5>6-6", "5-6>7-7", "6-5>7-8",
    "5-6>8-7", "6-5>8-7", "5-6>7", "5>7-8", "5-7>7-8", "5-6>7-9", "5-6-7>1-3", "5-7>1-2-3", "5->6-7", "-5>6",
    "05>6", "5>06", "5-06>7-8", "5-6>07-8", "00>1", "0>1", "1>0", "41>1", "1>37", "1>40", "1>41", "0-1>1-2",
    "1-2>0-1", "40-41>1-2", "1-2>36-37", "37>37", " 5>6", "5>6 ", "5 >6", "5> 6", "5 > 6", "5- 6>7-8", "5>6,7>8",
    "5>6,  7>8", "5>6 , 7>8", "5>6, ", ", 5>6", "5>6, , 7>8", "5>6,", "5>6, 7", "5>6; 7>8", "5>6 7>8", "5>6\n",
    "\n5>6", "5>6,\n7>8", "A>B", "+5>6", "5>+6", "1_0>6", "5.0>6", "5>\u0666", "5>\u00b2", "5\u00a0>6",
    "1-" + "9" * 4000 + ">1-" + "9" * 4000, "9" * 9000, "1>1, " * 1700, "5<6", "5-6>7-8-9",
]


class Written(unittest.TestCase):

    def test_the_very_texts(self):
        for board, text in TEXTS:
            self.assertEqual(make_board(board), board)
            self.assertEqual(shown_board(board), text)

    def test_written_and_read_again(self):
        for board, text in TEXTS:
            self.assertEqual(read_board(shown_board(board)), board)

    def test_many_boards_written_and_read_again(self):
        for number in range(2000):
            wires = []
            for column in range(1, 37):
                if number * column % 7 < 4:
                    wires.append((1 + (column + number * (column // 5)) % 40, column))
            board = make_board(wires)
            text = shown_board(board)
            self.assertEqual(read_board(text), board)
            # No piece could be one longer.
            self.assertEqual(shown_board(read_board(text)), text)

    def test_what_was_handed_in_stays(self):
        board = [(1, 1), (2, 2), (9, 9)]
        shown_board(board)
        self.assertEqual(board, [(1, 1), (2, 2), (9, 9)])


class Read(unittest.TestCase):

    def test_pieces_in_any_order_and_shorter(self):
        board = [(5, 1), (6, 2), (7, 3), (1, 4)]
        for text in ["5-7>1-3, 1>4", "1>4, 5-7>1-3", "7>3, 1>4, 5-6>1-2", "5>1, 6-7>2-3, 1>4", "1>4, 7>3, 6>2, 5>1"]:
            self.assertEqual(read_board(text), board)

    def test_the_bounds(self):
        self.assertEqual(read_board("39-40>35-36"), [(39, 35), (40, 36)])
        self.assertEqual(read_board("1-36>1-36"), [(column, column) for column in range(1, 37)])

    def test_what_is_refused(self):
        for text in WRONG:
            with self.assertRaises(NoBoard, msg=repr(text[:60])):
                read_board(text)

    def test_the_same_in_a_later_piece(self):
        for text in WRONG:
            if ", " not in text:
                with self.assertRaises(NoBoard, msg=repr(text[:60])):
                    read_board("9>9, " + text)
                with self.assertRaises(NoBoard, msg=repr(text[:60])):
                    read_board(text + ", 9>9")

    def meet(self, text, one, other):
        with self.assertRaises(Meet) as taken:
            read_board(text)
        self.assertEqual((taken.exception.one, taken.exception.other), (one, other))

    def test_wires_that_meet_in_the_texts_order(self):
        self.meet("5>6, 5>6", (5, 6), (5, 6))
        self.meet("5>6, 4>6", (5, 6), (4, 6))
        self.meet("9>3, 1-3>1-3", (9, 3), (3, 3))
        self.meet("1-3>1-3, 9>3", (3, 3), (9, 3))
        self.meet("5-8>5-8, 1-4>3-6", (5, 5), (3, 5))
        self.meet("5>9, 1-4>3-6, 7-9>4-6, 6>9", (2, 4), (7, 4))

    def test_no_board_ahead_of_meet(self):
        for text in WRONG:
            if text != "":
                with self.assertRaises(NoBoard, msg=repr(text[:60])):
                    read_board("5>6, 4>6, " + text)


if __name__ == "__main__":
    unittest.main()
