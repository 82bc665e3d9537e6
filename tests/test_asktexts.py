import unittest

from cardshop.askings import Asking, same_asking
from cardshop.asktexts import read_asking, shown_asking
from cardshop.errors import NoAsking

# Askings with the very texts that write them.
TEXTS = [
    (Asking("a", [], None, []), "take a; order; break 0; sum in 6; print"),
    (Asking("sales", [((1, 3), "A 7"), ((9, 9), " ")], None, []),
     "take sales; pick 1-3 A_7; pick 9 _; order; break 0; sum in 6; print"),
    (Asking("sales", [], ("mates", "people", (5, 7), (1, 3)), [(5, 7), (10, 10)]),
     "take sales; mates people 5-7 1-3; order 5-7, 10; break 0; sum in 6; print"),
    (Asking("sales", [], ("without", "people", (5, 5), (36, 36)), [(1, 36)], None, 1),
     "take sales; without people 5 36; order 1-36; break 1; sum in 6; print"),
    (Asking("abcdefgh", [], ("first", (5, 7)), [], None, 0, [(1, 2)], 12),
     "take abcdefgh; first 5-7; order; break 0; sum 1-2 in 12; print"),
    (Asking("a", [], None, [(1, 1), (2, 2), (3, 3)],
            [((20, 22), (5, 6), "plus", (7, 7)), ((23, 25), (20, 22), "less", (7, 8)),
             ((26, 26), (5, 6), "times", (5, 6))], 3, [(20, 22), (23, 25), (1, 1)], 1, [(1, 1), (2, 2), (40, 9)]),
     "take a; order 1, 2, 3; work 20-22 = 5-6 plus 7; work 23-25 = 20-22 less 7-8; work 26 = 5-6 times 5-6; "
     "break 3; sum 20-22, 23-25, 1 in 1; print 1-2>1-2, 40>9"),
    (Asking("z", [((1, 1), "Z")], ("first", (2, 2)), [(3, 3)], [((9, 9), (8, 8), "plus", (8, 8))], 1, [(9, 9)], 2,
            [(1, 1)]),
     "take z; pick 1 Z; first 2; order 3; work 9 = 8 plus 8; break 1; sum 9 in 2; print 1>1"),
]
FULL = ("take a; pick 1-2 A_; pick 3 B; mates b 5-7 1-3; order 5-7, 10; work 20-22 = 15 plus 16; "
        "work 23-25 = 15 less 16; break 1; sum 20-22, 30 in 9; print 1-2>1-2, 9>5")


class Written(unittest.TestCase):

    def test_the_very_texts(self):
        for asking, text in TEXTS:
            self.assertEqual(shown_asking(asking), text)

    def test_written_and_read_again_part_by_part(self):
        for asking, text in TEXTS:
            read = read_asking(text)
            self.assertIsInstance(read, Asking)
            self.assertTrue(same_asking(read, asking), text)
            for name in ["deck", "picks", "middle", "order", "works", "breaks", "sums", "figures", "board"]:
                self.assertEqual(getattr(read, name), getattr(asking, name))
            self.assertEqual(shown_asking(read), text)

    def test_the_full_one(self):
        self.assertEqual(shown_asking(read_asking(FULL)), FULL)


class Read(unittest.TestCase):

    def refused(self, text):
        with self.assertRaises(NoAsking, msg=repr(text[:200])):
            read_asking(text)

    def changed(self, old, new):
        self.assertEqual(FULL.count(old), 1, old)
        self.refused(FULL.replace(old, new))

    def test_the_boards_pieces_may_stand_otherwise(self):
        head = "take a; order; break 0; sum in 6; print "
        for text in ["9>5, 1-2>1-2", "1>1, 2>2, 9>5", "2>2, 9>5, 1>1"]:
            self.assertEqual(read_asking(head + text).board, [(1, 1), (2, 2), (9, 5)])

    def test_clauses_left_out(self):
        clauses = FULL.split("; ")
        for place, clause in enumerate(clauses):
            text = "; ".join(clauses[:place] + clauses[place + 1:])
            if clause.split(" ")[0] in ["take", "order", "break", "sum", "print"]:
                self.refused(text)
            else:
                self.assertEqual(shown_asking(read_asking(text)), text)

    def test_clauses_told_twice(self):
        clauses = FULL.split("; ")
        for place, clause in enumerate(clauses):
            if not clause.startswith("pick"):
                self.refused("; ".join(clauses[:place + 1] + clauses[place:]))
        self.refused(FULL.replace("; order", "; without c 5-7 1-3; order"))
        self.refused(FULL.replace("; order", "; first 5-7; order"))

    def test_clauses_in_another_order(self):
        clauses = FULL.split("; ")
        for place in range(len(clauses) - 1):
            if clauses[place].split(" ")[0] != clauses[place + 1].split(" ")[0]:
                turned = clauses[:place] + [clauses[place + 1], clauses[place]] + clauses[place + 2:]
                self.refused("; ".join(turned))
        for place in range(1, len(clauses)):
            if not clauses[place].startswith(("pick", "work")):
                self.refused("; ".join([clauses[place]] + clauses[:place] + clauses[place + 1:]))
                self.refused("; ".join(clauses[:place] + clauses[place + 1:] + [clauses[place]])
                             if place < len(clauses) - 1 else "")

    def test_picks_and_works_keep_their_order(self):
        self.assertEqual(read_asking(FULL).picks, [((1, 2), "A "), ((3, 3), "B")])
        self.assertEqual([work[2] for work in read_asking(FULL).works], ["plus", "less"])

    def test_a_blank_or_semicolon_too_many_or_too_few(self):
        for place, sign in enumerate(FULL):
            if sign in " ;,=->":
                self.refused(FULL[:place] + FULL[place + 1:])
                self.refused(FULL[:place] + sign + FULL[place:])
        for text in [" " + FULL, FULL + " ", FULL + ";", FULL + "; ", "; " + FULL, ";" + FULL, FULL + "\n",
                     FULL.replace("; ", ";\n"), FULL.replace(" ", "\t"), FULL.replace(" ", "  ")]:
            self.refused(text)

    def test_words_alone(self):
        self.refused("take a; order ; break 0; sum in 6; print")
        self.refused("take a; order; break 0; sum in 6; print ")
        self.refused("take a; order; break 0; sum  in 6; print")
        self.refused("take a; order; break 0; sum; print")
        self.refused("take a; order; break 0; sum in; print")
        self.refused("take a; order; break 0; sum in ; print")
        self.refused("take a; order; break 0; sum 6; print")
        self.refused("take a; order; break 0; sum 1 2 in 6; print")
        self.refused("take a; order; break; sum in 6; print")
        self.refused("take a; order; break ; sum in 6; print")
        self.refused("take a; order 1 2; break 0; sum in 6; print")
        self.refused("take a; order 1,2; break 0; sum in 6; print")
        self.refused("take a; order 1, 2, ; break 0; sum in 6; print")
        self.refused("take; order; break 0; sum in 6; print")
        self.refused("take ; order; break 0; sum in 6; print")
        self.refused("take a b; order; break 0; sum in 6; print")
        for text in ["", " ", ";", "; ", "take a", "a", "x" * 9000, "take a; " * 1000, "; " * 4000]:
            self.refused(text)

    def test_noughts_ahead(self):
        self.changed("pick 1-2 A_", "pick 01-2 A_")
        self.changed("5-7 1-3", "5-07 1-3")
        self.changed("order 5-7, 10", "order 5-7, 010")
        self.changed("work 20-22 = 15 plus", "work 20-22 = 015 plus")
        self.changed("break 1", "break 01")
        self.changed("in 9", "in 09")
        self.changed("in 9", "in 009")
        self.changed("9>5", "09>5")

    def test_wrong_words(self):
        self.changed("take", "Take")
        self.changed("take", "get")
        self.changed("mates", "mate")
        self.changed("order", "sort")
        self.changed("plus", "over")
        self.changed("= 15 plus", "is 15 plus")
        self.changed("break", "breaks")
        self.changed("sum ", "sums ")
        self.changed(" in ", " of ")
        self.changed("print", "show")
        self.changed("pick 3 B", "pick 3 B C")
        self.changed("pick 3 B", "pick 3")
        self.changed("mates b 5-7 1-3", "mates b 5-7")
        self.changed("mates b 5-7 1-3", "mates b 5-7 1-3 2")
        self.changed("mates b 5-7 1-3", "first b 5-7")
        self.changed("mates b 5-7 1-3", "first")

    def test_wrong_fields(self):
        self.changed("pick 3 B", "pick 3-3 B")
        self.changed("pick 3 B", "pick 0 B")
        self.changed("order 5-7, 10", "order 5-7, 37")
        self.changed("order 5-7, 10", "order 7-5, 10")
        self.changed("30 in", "x in")

    def test_texts_of_askings_that_are_refused(self):
        self.changed("take a", "take b")
        self.changed("take a", "take A")
        self.changed("take a", "take abcdefghi")
        self.changed("pick 1-2 A_", "pick 1-2 A")
        self.changed("pick 1-2 A_", "pick 1-2 a_")
        self.changed("pick 3 B", "pick 2-3 AB")
        self.changed("5-7 1-3", "5-7 1-2")
        self.changed("break 1", "break 3")
        self.changed("break 1", "break 4")
        self.changed("break 1", "break -1")
        self.changed("in 9", "in 0")
        self.changed("in 9", "in 13")
        self.changed("in 9", "in x")
        self.changed("work 20-22 =", "work 20-24 =")
        self.changed("work 20-22 =", "work 10-11 =")
        self.changed("pick 3 B", "; ".join(["pick 3 B"] * 8))
        self.changed("20-22, 30 in", "1, 2, 3, 4, 5 in")
        self.changed("order 5-7, 10", "order 1, 2, 3, 4, 5, 6, 7")

    def test_boards_that_are_refused(self):
        self.changed("9>5", "9>37")
        self.changed("9>5", "9>2")
        self.changed("9>5", "9")
        self.changed("9>5", "9-9>5-5")
        self.changed("1-2>1-2, 9>5", ",")


if __name__ == "__main__":
    unittest.main()
