import unittest

from cardshop.errors import NoOrder, NoTray
from cardshop.machines import (Dealer, Firster, Machine, Mater, Picker, Printer, Puncher, machine_of)


def card(text, mark):
    return text.ljust(36) + mark


A1, A2, B1, B2, C1 = [card(text, mark) for text, mark in [
    ("A05", "0001"), ("A07", "0002"), ("B03", "0003"), ("B09", "0004"), ("C01", "0005")]]
OTHER = [card("xA".upper(), "0101"), card("XC", "0102")]
WORK = ((10, 12), (2, 3), "times", (2, 3))


def worked(one):
    number = int(one[1:3])
    return one[:9] + str(number * number).zfill(3) + one[12:]


class Fed(unittest.TestCase):

    def fed(self, make, deck, backs=None):
        """A machine fed with none, then with each card, what is put back looked at each time."""
        backs = deck if backs is None else backs
        machine = make()
        self.assertIsInstance(machine, Machine)
        self.assertEqual(machine.back(), [])
        for number, each in enumerate(deck):
            self.assertIsNone(machine.feed(each))
            back = machine.back()
            self.assertEqual(back, backs[:number + 1])
            back.append("X")
            self.assertEqual(machine.back(), backs[:number + 1])
        self.assertIsNone(machine.finish())
        machine.stayed().append("X")
        machine.laid_aside().append("X")
        machine.lines_out().append("X")
        return machine

    def check(self, make, deck, stayed, aside, lines=(), backs=None):
        kept = list(deck)
        machine = self.fed(make, deck, backs)
        self.assertEqual(machine.stayed(), stayed)
        self.assertEqual(machine.laid_aside(), aside)
        self.assertEqual(machine.lines_out(), list(lines))
        self.assertEqual(deck, kept)


class Sorting(Fed):

    def test_dealer(self):
        self.check(lambda: Dealer(1), [], [], [])
        self.check(lambda: Dealer(1), [B1], [B1], [])
        self.check(lambda: Dealer(1), [B2, C1, A2, B1, A1, B2], [A2, A1, B2, B1, B2, C1], [])
        self.check(lambda: Dealer(3), [B2, C1, A2, B1, A1], [C1, B1, A1, A2, B2], [])
        self.check(lambda: Dealer(36), [B2, C1, A2], [B2, C1, A2], [])

    def test_picker(self):
        self.check(lambda: Picker(1, "B"), [], [], [])
        self.check(lambda: Picker(1, "B"), [B1], [B1], [])
        self.check(lambda: Picker(1, "B"), [A1], [], [A1])
        self.check(lambda: Picker(1, "B"), [B2, C1, A2, B1, A1], [B2, B1], [C1, A2, A1])
        self.check(lambda: Picker(36, " "), [B2, C1], [B2, C1], [])


class PuttingTogether(Fed):

    def test_mater_of_mates(self):
        make = lambda: Mater((1, 1), OTHER, (2, 2), "mates")
        self.check(make, [], [], [])
        self.check(make, [A1], [A1], [])
        self.check(make, [B1], [], [B1])
        self.check(make, [A2, A1, B2, B1, C1], [A2, A1, C1], [B2, B1])

    def test_mater_of_cards_without(self):
        make = lambda: Mater((1, 1), OTHER, (2, 2), "without")
        self.check(make, [], [], [])
        self.check(make, [A1], [], [A1])
        self.check(make, [A2, A1, B2, B1, C1], [B2, B1], [A2, A1, C1])

    def test_mater_with_no_other_cards(self):
        self.check(lambda: Mater((1, 1), [], (2, 2), "mates"), [A1, B1], [], [A1, B1])
        self.check(lambda: Mater((1, 1), [], (2, 2), "without"), [A1, B1], [A1, B1], [])

    def test_mater_made_with_a_deck_out_of_order(self):
        for other, place in [([B1, A1], 1), ([A1, C1, B1, A2], 2), ([A1, A2, B1, A1], 3)]:
            for word in ["mates", "without"]:
                with self.assertRaises(NoOrder) as taken:
                    Mater((1, 1), other, (1, 1), word)
                self.assertEqual((taken.exception.deck, taken.exception.place), (2, place))
        Mater((1, 1), [B1, A1], (5, 5), "mates")

    def test_the_other_deck_stays_and_is_kept_apart(self):
        other = list(OTHER)
        machine = Mater((1, 1), other, (2, 2), "mates")
        self.assertEqual(other, OTHER)
        other.clear()
        machine.feed(A1)
        machine.finish()
        self.assertEqual(machine.stayed(), [A1])
        self.assertEqual(other, [])

    def test_firster(self):
        make = lambda: Firster((1, 1))
        self.check(make, [], [], [])
        self.check(make, [B1], [B1], [])
        self.check(make, [A2, A1, B2, B1, C1], [A2, B2, C1], [A1, B1])
        self.check(lambda: Firster((1, 3)), [A1, A2, B1], [A1, A2, B1], [])
        self.check(lambda: Firster((30, 36)), [B1, A1, A2], [B1], [A1, A2])

    def test_a_refused_card_changes_nothing(self):
        makes = [(lambda: Mater((1, 1), OTHER, (2, 2), "mates"), [A1, A2, C1], [B1]),
                 (lambda: Mater((1, 1), OTHER, (2, 2), "without"), [B1], [A1, A2, C1]),
                 (lambda: Firster((1, 1)), [A1, B1, C1], [A2])]
        for make, stayed, aside in makes:
            machine = make()
            refused = {2: [card("", "9999"), card("9", "9998")], 3: [A1, A2], 4: [B1, A1]}
            for number, each in enumerate([A1, A2, B1, C1]):
                machine.feed(each)
                fed = machine.back()
                for low in refused.get(number + 1, []):
                    with self.assertRaises(NoOrder) as taken:
                        machine.feed(low)
                    self.assertEqual((taken.exception.deck, taken.exception.place), (1, number + 1))
                    self.assertEqual(machine.back(), fed)
            machine.finish()
            self.assertEqual((machine.stayed(), machine.laid_aside()), (stayed, aside))

    def test_held_against_the_card_fed_last(self):
        # B1 is refused behind C1; had it been taken as the last, C1 again or B2 would go otherwise.
        machine = Firster((1, 1))
        machine.feed(C1)
        with self.assertRaises(NoOrder):
            machine.feed(B1)
        with self.assertRaises(NoOrder) as taken:
            machine.feed(B2)
        self.assertEqual(taken.exception.place, 1)
        machine.feed(C1)
        machine.finish()
        self.assertEqual((machine.stayed(), machine.laid_aside()), ([C1], [C1]))


class Punching(Fed):

    def test_puncher(self):
        self.check(lambda: Puncher(WORK), [], [], [])
        for deck in [[A1], [B2, A1, C1, A1]]:
            done = [worked(each) for each in deck]
            self.check(lambda: Puncher(WORK), deck, done, [], (), done)

    def test_a_punchers_cards_are_put_back_worked(self):
        machine = Puncher(WORK)
        machine.feed(A2)
        self.assertEqual(machine.back(), [card("A07      049", "0002")])


class Printing(Fed):

    def test_printer(self):
        make = lambda: Printer([(1, 1)], [(2, 3)], 3, [(1, 1)])
        self.check(make, [], [], [], ["** 000"])
        self.check(make, [B1], [B1], [], ["0003 " + "B".ljust(36), "* B 003", "** 003"])
        deck = [A1, A2, B1]
        self.check(make, deck, deck, [], [
            "0001 " + "A".ljust(36), "0002 " + "A".ljust(36), "* A 012", "0003 " + "B".ljust(36), "* B 003", "** 015"])

    def test_lines_so_far(self):
        machine = Printer([(1, 1)], [(2, 3)], 3, [(1, 1)])
        self.assertEqual(machine.lines_out(), [])
        machine.feed(A1)
        first = machine.lines_out()
        self.assertEqual(first, ["0001 " + "A".ljust(36)])
        machine.feed(B1)
        self.assertEqual(machine.lines_out(), first + ["* A 005", "0003 " + "B".ljust(36)])
        self.assertEqual(first, ["0001 " + "A".ljust(36)])
        machine.finish()
        self.assertEqual(len(machine.lines_out()), 5)

    def test_what_it_was_made_of_is_copied(self):
        breaks, sums, board = [(1, 1)], [(2, 3)], [(1, 1)]
        machine = Printer(breaks, sums, 3, board)
        breaks.clear()
        sums.clear()
        board.clear()
        machine.feed(A1)
        machine.finish()
        self.assertEqual(machine.lines_out(), ["0001 " + "A".ljust(36), "* A 005", "** 005"])


class MachineOf(Fed):

    GOINGS = [
        (("deal", "a", 1), Dealer, [A1, B1, C1], [], []),
        (("pick", "a", 1, "B"), Picker, [B1], [A1, C1], []),
        (("mate", "a", "b", (1, 1), (2, 2), "mates"), Mater, [A1, C1], [B1], []),
        (("mate", "a", "b", (1, 1), (2, 2), "without"), Mater, [B1], [A1, C1], []),
        (("first", "a", (5, 5)), Firster, [A1], [B1, C1], []),
        (("punch", "a", WORK), Puncher, [worked(A1), worked(B1), worked(C1)], [], []),
        (("count", "a", [], [(2, 3)], 2, []), Printer, [A1, B1, C1], [], [
            "0001 " + " " * 36, "0003 " + " " * 36, "0005 " + " " * 36, "* 09"]),
    ]

    def test_each_going(self):
        for going, kind, stayed, aside, lines in self.GOINGS:
            trays = {"a": [A1, B1, C1], "b": list(OTHER)}
            machine = machine_of(going, trays)
            self.assertIs(type(machine), kind)
            for each in [A1, B1, C1]:
                machine.feed(each)
            machine.finish()
            self.assertEqual((machine.stayed(), machine.laid_aside(), machine.lines_out()), (stayed, aside, lines))
            self.assertEqual(trays, {"a": [A1, B1, C1], "b": OTHER})
            self.assertIsNot(machine_of(going, trays), machine_of(going, trays))

    def test_the_first_name_is_not_looked_at(self):
        for going, kind, stayed, aside, lines in self.GOINGS:
            self.assertIs(type(machine_of(going, {"b": OTHER})), kind)
            if going[0] != "mate":
                self.assertIs(type(machine_of(going, {})), kind)

    def test_no_tray_for_the_second_name(self):
        for word in ["mates", "without"]:
            for trays in [{}, {"a": [A1]}, {"a": [], "c": []}]:
                with self.assertRaises(NoTray):
                    machine_of(("mate", "a", "b", (1, 1), (2, 2), word), trays)

    def test_the_other_deck_out_of_order(self):
        trays = {"a": [A1], "b": OTHER[::-1]}
        with self.assertRaises(NoOrder) as taken:
            machine_of(("mate", "a", "b", (1, 1), (2, 2), "mates"), trays)
        self.assertEqual((taken.exception.deck, taken.exception.place), (2, 1))


if __name__ == "__main__":
    unittest.main()
