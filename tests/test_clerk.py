import unittest

from cardshop.clerk import Clerk
from cardshop.errors import NoOrder, NoTray
from helpers import card

A1, A2, B1, B2, C1 = [card(text, mark) for text, mark in [
    ("A05", "0001"), ("A07", "0002"), ("B03", "0003"), ("B09", "0004"), ("C01", "0005")]]
OTHER = [card("XA", "0101"), card("XC", "0102")]
WORK = ((10, 12), (2, 3), "times", (2, 3))
MATE = ("mate", "a", "b", (1, 1), (2, 2), "mates")
COUNT = ("count", "a", [(1, 1)], [(2, 3)], 3, [(1, 1)])


def worked(one):
    return one[:9] + str(int(one[1:3]) ** 2).zfill(3) + one[12:]


def told(clerk):
    """All that a clerk tells."""
    return (clerk.lines_out(), {name: clerk.deck_of(name) for name in clerk.names_now()})


class Steps(unittest.TestCase):

    def check(self, trays, plan, rows):
        """Each row is what a step tells, and what the clerk tells behind it: the lines and the trays."""
        clerk = Clerk(trays, plan)
        for number, (done, lines, trays_then) in enumerate(rows):
            self.assertIs(clerk.step(), done, number)
            self.assertEqual(told(clerk), (lines, trays_then), number)
        self.assertIs(clerk.step(), False)
        self.assertIs(clerk.step(), False)

    def test_no_plan(self):
        self.check({}, [], [(False, [], {"-": []})])
        self.check({"a": [A1]}, [], [(False, [], {"-": [], "a": [A1]})])

    def test_an_empty_tray(self):
        trays = {"-": [], "a": []}
        self.check({"a": []}, [("deal", "a", 1)], [(True, [], trays), (True, [], trays), (False, [], trays)])

    def test_deal(self):
        before = {"-": [], "a": [B1, A1], "b": [C1]}
        after = {"-": [], "a": [A1, B1], "b": [C1]}
        self.check({"a": [B1, A1], "b": [C1]}, [("deal", "a", 1)], [
            (True, [], before), (True, [], before), (True, [], before), (True, [], after), (False, [], after)])

    def test_pick(self):
        before = {"-": [], "a": [B1, A1, B2]}
        after = {"-": [A1], "a": [B1, B2]}
        self.check({"a": [B1, A1, B2]}, [("pick", "a", 1, "B")], [(True, [], before)] * 4 + [
            (True, [], after), (False, [], after)])

    def test_mate(self):
        before = {"-": [C1], "a": [A1, B1], "b": OTHER}
        for word, stay, aside in [("mates", A1, B1), ("without", B1, A1)]:
            after = {"-": [C1, aside], "a": [stay], "b": OTHER}
            self.check({"b": OTHER, "a": [A1, B1], "-": [C1]}, [MATE[:5] + (word,)], [(True, [], before)] * 3 + [
                (True, [], after), (False, [], after)])

    def test_first(self):
        before = {"-": [], "a": [A2, A1, B1]}
        after = {"-": [A1], "a": [A2, B1]}
        self.check({"a": [A2, A1, B1]}, [("first", "a", (1, 1))], [(True, [], before)] * 4 + [(True, [], after)])

    def test_punch(self):
        # The cards fed so far are put back worked.
        self.check({"a": [A1, B1]}, [("punch", "a", WORK)], [
            (True, [], {"-": [], "a": [A1, B1]}),
            (True, [], {"-": [], "a": [worked(A1), B1]}),
            (True, [], {"-": [], "a": [worked(A1), worked(B1)]}),
            (True, [], {"-": [], "a": [worked(A1), worked(B1)]})])

    def test_count(self):
        trays = {"-": [], "a": [A1, B1]}
        lines = ["0001 " + "A".ljust(36), "* A 005", "0003 " + "B".ljust(36), "* B 003", "** 008"]
        self.check({"a": [A1, B1]}, [COUNT], [(True, [], trays)] * 3 + [(True, lines, trays), (False, lines, trays)])

    def test_one_going_behind_the_other(self):
        clerk = Clerk({"a": [C1, B1, A1, B2], "b": OTHER}, [
            ("pick", "a", 3, "3"), COUNT, ("deal", "b", 2), ("count", "b", [], [], 1, [])])
        clerk.run()
        self.assertEqual(told(clerk), (
            ["0003 " + "B".ljust(36), "* B 003", "** 003", "0101 " + " " * 36, "0102 " + " " * 36, "*"],
            {"-": [C1, A1, B2], "a": [B1], "b": OTHER}))

    def test_aside_goes_on_the_end_of_the_tray(self):
        clerk = Clerk({"a": [A1, B1, C1], "b": [B2, A2], "-": [C1]}, [
            ("pick", "a", 1, "B"), ("pick", "b", 1, "B"), ("pick", "a", 1, "Z")])
        clerk.run()
        self.assertEqual(told(clerk)[1], {"-": [C1, A1, C1, A2, B1], "a": [], "b": [B2]})

    def test_goings_of_the_tray_of_what_is_aside(self):
        clerk = Clerk({"-": [B1, A1]}, [("deal", "-", 1), ("pick", "-", 1, "B")])
        clerk.run()
        self.assertEqual(told(clerk), ([], {"-": [B1, A1]}))

    def test_run_gives_back_nothing(self):
        self.assertIsNone(Clerk({"a": []}, [COUNT]).run())
        self.assertIsNone(Clerk({}, []).run())
        self.assertIsNone(Clerk({}, []).jam())

    def test_names_and_decks(self):
        clerk = Clerk({"b": [], "z": [A1], "a": [B1]}, [])
        self.assertEqual(clerk.names_now(), ["-", "a", "b", "z"])
        self.assertEqual(Clerk({}, []).names_now(), ["-"])
        for name in ["c", "", "A"]:
            with self.assertRaises(NoTray):
                clerk.deck_of(name)


class Copies(unittest.TestCase):

    def test_trays_and_plan_are_copied(self):
        trays = {"a": [B1, A1]}
        breaks, sums, board = [(1, 1)], [(2, 3)], [(1, 1)]
        plan = [("deal", "a", 1), ("count", "a", breaks, sums, 3, board)]
        clerk = Clerk(trays, plan)
        trays["a"].append(C1)
        trays["x"] = []
        plan.clear()
        breaks.clear()
        sums.append((1, 1))
        board.clear()
        clerk.run()
        self.assertEqual(told(clerk), (
            ["0001 " + "A".ljust(36), "* A 005", "0003 " + "B".ljust(36), "* B 003", "** 008"],
            {"-": [], "a": [A1, B1]}))
        self.assertEqual(trays, {"a": [B1, A1, C1], "x": []})

    def test_what_was_handed_in_stays(self):
        trays, plan = {"a": [B1, A1], "-": [C1], "b": list(OTHER)}, [("pick", "a", 1, "A"), MATE, COUNT]
        kept = list(plan)
        Clerk(trays, plan).run()
        self.assertEqual(trays, {"a": [B1, A1], "-": [C1], "b": OTHER})
        self.assertEqual(plan, kept)

    def test_what_is_told_is_the_askers_own(self):
        clerk = Clerk({"a": [A1, B1], "b": []}, [COUNT])
        for number in range(5):
            for name in ["a", "b", "-"]:
                clerk.deck_of(name).append("X")
            clerk.names_now().append("X")
            clerk.lines_out().append("X")
            clerk.step()
        self.assertEqual(told(clerk)[1], {"-": [], "a": [A1, B1], "b": []})
        self.assertEqual(len(clerk.lines_out()), 5)

    def test_what_was_told_stays(self):
        clerk = Clerk({"a": [B1, A1]}, [("pick", "a", 1, "A"), COUNT])
        early = told(clerk)
        clerk.step()
        during = clerk.deck_of("a")
        clerk.run()
        self.assertEqual(early, ([], {"-": [], "a": [B1, A1]}))
        self.assertEqual(during, [B1, A1])


class Refusals(unittest.TestCase):

    def test_no_tray_for_the_first_name(self):
        for going in [("deal", "c", 1), ("pick", "c", 1, "A"), ("first", "c", (1, 1)), ("punch", "c", WORK),
                      ("count", "c", [], [], 1, []), ("mate", "c", "b", (1, 1), (2, 2), "mates"),
                      ("mate", "c", "d", (1, 1), (2, 2), "mates")]:
            clerk = Clerk({"a": [A1], "b": OTHER}, [("deal", "a", 1), going])
            for number in range(3):
                clerk.step()
            before = told(clerk)
            for number in range(2):
                with self.assertRaises(NoTray):
                    clerk.step()
                self.assertEqual(told(clerk), before)
            with self.assertRaises(NoTray):
                clerk.run()

    def test_no_tray_for_the_other_name(self):
        clerk = Clerk({"a": [A1]}, [MATE])
        for number in range(2):
            with self.assertRaises(NoTray):
                clerk.step()
            self.assertEqual(told(clerk), ([], {"-": [], "a": [A1]}))

    def test_no_tray_for_the_first_ahead_of_the_other_deck(self):
        clerk = Clerk({"b": OTHER[::-1]}, [MATE])
        with self.assertRaises(NoTray):
            clerk.step()

    def test_the_other_deck_out_of_order(self):
        clerk = Clerk({"a": [B1, A1], "b": OTHER[::-1]}, [MATE])
        for number in range(2):
            with self.assertRaises(NoOrder) as taken:
                clerk.step()
            self.assertEqual((taken.exception.deck, taken.exception.place), (2, 1))
            self.assertEqual(told(clerk), ([], {"-": [], "a": [B1, A1], "b": OTHER[::-1]}))

    def test_a_refused_card(self):
        for going in [MATE, MATE[:5] + ("without",), ("first", "a", (1, 1))]:
            deck = [A1, C1, B1, B2]
            clerk = Clerk({"a": deck, "b": OTHER}, [going])
            kept = ([], {"-": [], "a": deck, "b": OTHER})
            for number in range(2):
                # It begins and is fed with two cards, each time anew.
                for step in range(3):
                    self.assertIs(clerk.step(), True)
                    self.assertEqual(told(clerk), kept)
                with self.assertRaises(NoOrder) as taken:
                    clerk.step()
                self.assertEqual((taken.exception.deck, taken.exception.place), (1, 2))
                self.assertEqual(told(clerk), kept)
            # No going is on: a jam does nothing, and the next step begins it.
            clerk.jam()
            self.assertIs(clerk.step(), True)
            self.assertIs(clerk.step(), True)
            self.assertEqual(told(clerk), kept)
            with self.assertRaises(NoOrder):
                clerk.run()


class Jams(unittest.TestCase):

    X1 = card("A15", "0006")
    Q1 = card("Q", "0900")
    TRAYS = {"a": [C1, X1, B2, A2, B1, A1], "b": OTHER[::-1], "-": [Q1]}
    PLAN = [("pick", "a", 2, "0"), ("deal", "a", 1), ("deal", "b", 2), ("first", "a", (1, 1)), MATE,
            ("punch", "a", WORK), COUNT, ("deal", "a", 3), COUNT]

    def steps(self):
        clerk = Clerk(self.TRAYS, self.PLAN)
        many = 0
        while clerk.step():
            many += 1
        return many

    def wanted(self):
        clerk = Clerk(self.TRAYS, self.PLAN)
        clerk.run()
        return told(clerk)

    def test_the_plan_as_it_is(self):
        lines = {"A": "0002 " + "A".ljust(36), "C": "0005 " + "C".ljust(36)}
        self.assertEqual(self.wanted(), (
            [lines["A"], "* A 007", lines["C"], "* C 001", "** 008",
             lines["C"], "* C 001", lines["A"], "* A 007", "** 008"],
            {"-": [self.Q1, self.X1, A1, B1, B2], "a": [worked(C1), worked(A2)], "b": OTHER}))

    def test_a_jam_at_every_step(self):
        wanted = self.wanted()
        for many in range(self.steps() + 1):
            clerk = Clerk(self.TRAYS, self.PLAN)
            for number in range(many):
                clerk.step()
            before = told(clerk)
            clerk.jam()
            self.assertEqual(told(clerk), before)
            # Twice: the second time no going is on.
            clerk.jam()
            self.assertEqual(told(clerk), before)
            clerk.run()
            self.assertEqual(told(clerk), wanted, many)

    def test_jams_again_and_again(self):
        wanted = self.wanted()
        clerk = Clerk(self.TRAYS, self.PLAN)
        # A going is jammed at each number of steps into it, until it is let go.
        steps = 0
        while clerk.step():
            steps += 1
            if steps % 4 == 3 and steps < 400:
                clerk.jam()
            if steps % 31 == 0:
                for number in range(7):
                    clerk.step()
        self.assertEqual(told(clerk), wanted)

    def test_a_jam_with_no_going_on(self):
        clerk = Clerk({"a": [B1, A1]}, [("deal", "a", 1)])
        clerk.jam()
        self.assertEqual(told(clerk), ([], {"-": [], "a": [B1, A1]}))
        clerk.run()
        clerk.jam()
        self.assertEqual(told(clerk), ([], {"-": [], "a": [A1, B1]}))
        self.assertIs(clerk.step(), False)

    def test_the_next_step_begins_the_going_anew(self):
        clerk = Clerk({"a": [B1, A1]}, [COUNT])
        for number in range(3):
            clerk.step()
        clerk.jam()
        # Begun, fed twice and ended.
        for number in range(3):
            self.assertIs(clerk.step(), True)
            self.assertEqual(clerk.lines_out(), [])
        clerk.step()
        self.assertEqual(len(clerk.lines_out()), 5)

    def test_a_punch_that_reads_what_it_punches_is_put_back_worked(self):
        clerk = Clerk({"a": [A1, A2]}, [("punch", "a", ((2, 3), (2, 3), "plus", (2, 3)))])
        clerk.step()
        clerk.step()
        clerk.jam()
        self.assertEqual(clerk.deck_of("a"), [card("A10", "0001"), A2])
        clerk.run()
        self.assertEqual(clerk.deck_of("a"), [card("A20", "0001"), card("A14", "0002")])


if __name__ == "__main__":
    unittest.main()
