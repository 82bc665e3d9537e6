import unittest

from cardshop.askings import Asking
from cardshop.errors import NoTray
from cardshop.reading import chosen_deck, told_lines


def card(text, mark):
    return text.ljust(36) + mark


def marks(deck):
    return [each[36:] for each in deck]


SALES = [card("B 12", "0001"), card("A 30", "0002"), card("B 05", "0003"), card("C 12", "0004"), card("A 30", "0005"),
         card("AX99", "0006")]
PEOPLE = [card("  Z", "0101"), card("  A", "0102"), card("  C", "0103"), card("  A", "0104")]
TRAYS = {"sales": SALES, "people": PEOPLE}


class Chosen(unittest.TestCase):

    def chosen(self, picks, middle, order):
        return marks(chosen_deck(Asking("sales", picks, middle, order), TRAYS))

    def test_nothing_asked(self):
        deck = chosen_deck(Asking("sales", [], None, []), TRAYS)
        self.assertEqual(deck, SALES)
        self.assertIsNot(deck, SALES)

    def test_no_cards(self):
        asking = Asking("sales", [((1, 1), "A")], ("mates", "people", (1, 1), (3, 3)), [(3, 4)], None, 1, [(3, 4)])
        self.assertEqual(chosen_deck(asking, {"sales": [], "people": []}), [])
        self.assertEqual(told_lines(asking, {"sales": [], "people": []}), ["** 000000"])

    def test_picks(self):
        self.assertEqual(self.chosen([((1, 1), "A")], None, []), ["0002", "0005", "0006"])
        self.assertEqual(self.chosen([((1, 1), "A"), ((3, 4), "30")], None, []), ["0002", "0005"])
        self.assertEqual(self.chosen([((1, 4), "B 05")], None, []), ["0003"])
        self.assertEqual(self.chosen([((1, 1), "Q")], None, []), [])
        self.assertEqual(self.chosen([((1, 1), "A"), ((3, 4), "12")], None, []), [])

    def test_keys(self):
        self.assertEqual(self.chosen([], None, [(1, 1)]), ["0002", "0005", "0006", "0001", "0003", "0004"])
        self.assertEqual(self.chosen([], None, [(3, 4)]), ["0003", "0001", "0004", "0002", "0005", "0006"])
        self.assertEqual(self.chosen([], None, [(3, 4), (1, 1)]), ["0003", "0001", "0004", "0002", "0005", "0006"])
        self.assertEqual(self.chosen([], None, [(1, 1), (3, 4)]), ["0002", "0005", "0006", "0003", "0001", "0004"])
        self.assertEqual(self.chosen([], None, [(2, 2), (1, 1)]), ["0002", "0005", "0001", "0003", "0004", "0006"])

    def test_mates(self):
        # By the middle's field first, where the keys leave it open.
        self.assertEqual(self.chosen([], ("mates", "people", (1, 1), (3, 3)), []), ["0002", "0005", "0006", "0004"])
        self.assertEqual(self.chosen([], ("mates", "people", (1, 1), (3, 3)), [(3, 3)]),
                         ["0004", "0002", "0005", "0006"])
        self.assertEqual(self.chosen([((2, 2), "X")], ("mates", "people", (1, 1), (3, 3)), []), ["0006"])

    def test_without(self):
        self.assertEqual(self.chosen([], ("without", "people", (1, 1), (3, 3)), []), ["0001", "0003"])
        self.assertEqual(self.chosen([], ("without", "people", (1, 1), (3, 3)), [(3, 3)]), ["0003", "0001"])
        self.assertEqual(self.chosen([], ("without", "people", (1, 1), (1, 1)), []),
                         ["0002", "0005", "0006", "0001", "0003", "0004"])

    def test_first(self):
        self.assertEqual(self.chosen([], ("first", (1, 1)), []), ["0002", "0001", "0004"])
        self.assertEqual(self.chosen([], ("first", (3, 4)), []), ["0003", "0001", "0002", "0006"])
        self.assertEqual(self.chosen([], ("first", (3, 4)), [(1, 1)]), ["0002", "0006", "0003", "0001"])
        self.assertEqual(self.chosen([((1, 1), "B")], ("first", (1, 1)), [(3, 4)]), ["0001"])

    def test_the_first_is_chosen_ahead_of_the_keys(self):
        # 0001 comes ahead of 0003 in the deck, though the keys would put 0003 first.
        self.assertEqual(self.chosen([((1, 1), "B")], ("first", (1, 1)), [(4, 4), (3, 3)]), ["0001"])

    def test_cards_of_which_neither_comes_ahead_stay_as_they_were(self):
        self.assertEqual(self.chosen([], None, [(30, 36)]), marks(SALES))
        self.assertEqual(self.chosen([], ("without", "people", (30, 30), (3, 3)), [(31, 31)]), marks(SALES))

    def test_works(self):
        asking = Asking("sales", [((1, 1), "B")], None, [],
                        [((10, 12), (3, 4), "times", (3, 4)), ((14, 17), (10, 12), "plus", (3, 4))])
        self.assertEqual(chosen_deck(asking, TRAYS), [
            card("B 12     144 0156", "0001"), card("B 05     025 0030", "0003")])

    def test_trays_stay_and_what_is_told_is_the_askers_own(self):
        trays = {"sales": list(SALES), "people": list(PEOPLE), "other": []}
        asking = Asking("sales", [], ("mates", "people", (1, 1), (3, 3)), [(3, 3)],
                        [((10, 12), (3, 4), "times", (3, 4))])
        deck = chosen_deck(asking, trays)
        lines = told_lines(asking, trays)
        deck.append("X")
        lines.append("X")
        chosen_deck(Asking("sales", [], None, []), trays).append("X")
        self.assertEqual(trays, {"sales": SALES, "people": PEOPLE, "other": []})

    def test_no_tray(self):
        mating = Asking("sales", [], ("mates", "people", (1, 1), (3, 3)), [])
        for deed in [chosen_deck, told_lines]:
            for trays in [{}, {"people": PEOPLE}, {"sales": SALES}, {"Sales": SALES, "people": []}]:
                with self.assertRaises(NoTray):
                    deed(mating, trays)
            with self.assertRaises(NoTray):
                deed(Asking("sales", [], None, []), {"people": PEOPLE})
            with self.assertRaises(NoTray):
                deed(Asking("sales", [], ("without", "x", (1, 1), (3, 3)), []), TRAYS)
            deed(Asking("sales", [], ("first", (1, 1)), []), {"sales": SALES})


class Lines(unittest.TestCase):

    def test_as_the_counter_prints_them(self):
        asking = Asking("sales", [((2, 2), " ")], None, [(1, 1), (3, 4)], [((10, 12), (3, 4), "times", (3, 4))], 1,
                        [(3, 4), (10, 12)], 4, [(1, 1), (10, 3), (11, 4), (12, 5)])
        self.assertEqual(told_lines(asking, TRAYS), [
            "0002 " + "A 900".ljust(36), "0005 " + "A 900".ljust(36), "* A 0060 1800",
            "0003 " + "B 025".ljust(36), "0001 " + "B 144".ljust(36), "* B 0017 0169",
            "0004 " + "C 144".ljust(36), "* C 0012 0144", "** 0089 2113"])

    def test_breaks_are_the_first_keys(self):
        asking = Asking("sales", [((2, 2), " "), ((1, 1), "A")], None, [(1, 1), (3, 3), (4, 4)], None, 2)
        self.assertEqual(told_lines(asking, TRAYS), [
            "0002 " + " " * 36, "0005 " + " " * 36, "* A 3", "** A", "***"])


if __name__ == "__main__":
    unittest.main()
