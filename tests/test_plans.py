import unittest

from cardshop.askings import Asking
from cardshop.plans import is_plan, plan_of
from helpers import Reckoning

WORKS = [((20, 22), (1, 2), "plus", (3, 4)), ((24, 24), (20, 22), "less", (1, 1))]


def short(plan):
    """A plan as words: deals as `a3`, picks as `a3=X`, the other goings by their first words."""
    words = []
    for going in plan:
        if going[0] == "deal":
            words.append(f"{going[1]}{going[2]}")
        elif going[0] == "pick":
            words.append(f"{going[1]}{going[2]}={going[3]}")
        else:
            words.append(going[0])
    return " ".join(words)


class PlanOf(unittest.TestCase):

    def check(self, picks, middle, order, wanted):
        plan = plan_of(Asking("a", picks, middle, order))
        self.assertEqual(short(plan), wanted)

    def test_the_very_goings(self):
        asking = Asking("a", [((3, 4), "A ")], ("mates", "b", (5, 6), (1, 2)), [(5, 6), (9, 9)], WORKS, 1,
                        [(20, 22)], 7, [(1, 1), (40, 2)])
        self.assertEqual(plan_of(asking), [
            ("pick", "a", 3, "A"), ("pick", "a", 4, " "),
            ("deal", "a", 9), ("deal", "a", 6), ("deal", "a", 5),
            ("deal", "b", 2), ("deal", "b", 1),
            ("mate", "a", "b", (5, 6), (1, 2), "mates"),
            ("punch", "a", WORKS[0]), ("punch", "a", WORKS[1]),
            ("count", "a", [(5, 6)], [(20, 22)], 7, [(1, 1), (40, 2)])])
        asking = Asking("a", [], ("without", "b", (5, 5), (1, 1)), [])
        self.assertEqual(plan_of(asking), [
            ("deal", "a", 5), ("deal", "b", 1), ("mate", "a", "b", (5, 5), (1, 1), "without"),
            ("count", "a", [], [], 6, [])])
        asking = Asking("a", [], ("first", (5, 5)), [])
        self.assertEqual(plan_of(asking), [("deal", "a", 5), ("first", "a", (5, 5)), ("count", "a", [], [], 6, [])])
        self.assertEqual(plan_of(Asking("a", [], None, [])), [("count", "a", [], [], 6, [])])

    def test_no_middle(self):
        self.check([], None, [(1, 3)], "a3 a2 a1 count")
        self.check([], None, [(3, 4), (1, 1)], "a1 a4 a3 count")
        # Keys that share columns with one another, and with picks.
        self.check([], None, [(3, 5), (4, 6), (2, 3)], "a2 a6 a5 a4 a3 count")
        self.check([], None, [(3, 3), (3, 3)], "a3 count")
        self.check([((3, 4), "AB")], None, [(2, 5)], "a3=A a4=B a5 a2 count")
        self.check([((2, 5), "AB01")], None, [(2, 5), (3, 3)], "a2=A a3=B a4=0 a5=1 count")

    def test_picks_rise_and_stand_once(self):
        self.check([((9, 9), "X"), ((2, 3), "AB"), ((3, 4), "BC")], None, [], "a2=A a3=B a4=C a9=X count")

    def test_mates_and_without(self):
        for word in ["mates", "without"]:
            middle = (word, "b", (5, 6), (1, 2))
            # No keys; keys that begin with the middle's field.
            self.check([], middle, [], "a6 a5 b2 b1 mate count")
            self.check([], middle, [(5, 6)], "a6 a5 b2 b1 mate count")
            self.check([], middle, [(5, 6), (1, 1)], "a1 a6 a5 b2 b1 mate count")
            self.check([], middle, [(5, 7)], "a7 a6 a5 b2 b1 mate count")
            # Keys apart from it.
            self.check([], middle, [(1, 1)], "a6 a5 b2 b1 mate a1 count")
            self.check([], middle, [(1, 2)], "a6 a5 b2 b1 mate a2 a1 count")
            # Keys that hold it, and more behind it.
            self.check([], middle, [(4, 7)], "a7 a6 a5 b2 b1 mate a4 count")
            self.check([], middle, [(1, 1), (5, 6), (2, 3)], "a3 a2 a6 a5 b2 b1 mate a1 count")
            # Keys that hold a part of it.
            self.check([], middle, [(5, 5)], "a6 a5 b2 b1 mate count")
            self.check([], middle, [(6, 6)], "a6 a5 b2 b1 mate a6 count")
            self.check([], middle, [(6, 6), (1, 1)], "a6 a5 b2 b1 mate a1 a6 count")
            self.check([], middle, [(5, 5), (1, 1)], "a6 a5 b2 b1 mate a1 a5 count")
            # Keys that hold it in another order.
            self.check([], middle, [(6, 6), (5, 5)], "a6 a5 b2 b1 mate a6 count")
            self.check([], middle, [(6, 6), (5, 5), (1, 1)], "a1 a6 a5 b2 b1 mate a6 count")
            # Picks that share columns with it, wholly or in part.
            self.check([((5, 5), "X")], middle, [(1, 1)], "a5=X a6 b2 b1 mate a1 count")
            self.check([((5, 6), "XY")], middle, [(1, 1)], "a5=X a6=Y a1 b2 b1 mate count")
            self.check([((5, 6), "XY")], middle, [], "a5=X a6=Y b2 b1 mate count")
            self.check([((6, 6), "X")], middle, [(6, 6), (5, 5), (1, 1)], "a6=X a1 a5 b2 b1 mate count")

    def test_first(self):
        middle = ("first", (5, 6))
        self.check([], middle, [], "a6 a5 first count")
        self.check([], middle, [(5, 6)], "a6 a5 first count")
        # What stands behind all of the middle's columns parts no cards.
        self.check([], middle, [(5, 6), (1, 1)], "a6 a5 first count")
        self.check([], middle, [(5, 7)], "a6 a5 first count")
        self.check([], middle, [(6, 6), (5, 5), (1, 1)], "a6 a5 first a6 count")
        self.check([], middle, [(1, 1)], "a6 a5 first a1 count")
        self.check([], middle, [(1, 1), (5, 5), (2, 2), (6, 6), (3, 3)], "a6 a5 first a2 a5 a1 count")
        self.check([], middle, [(5, 5), (1, 1)], "a6 a5 first a1 a5 count")
        self.check([((5, 6), "XY")], middle, [(1, 1)], "a5=X a6=Y first count")
        self.check([((5, 5), "X")], middle, [(1, 1), (6, 6), (2, 2)], "a5=X a6 first a1 count")

    def test_works(self):
        plan = plan_of(Asking("a", [], ("first", (5, 5)), [(6, 6)], WORKS))
        self.assertEqual(short(plan), "a5 first a6 punch punch count")

    def test_what_is_told_is_the_askers_own(self):
        asking = Asking("a", [], None, [(1, 1)], None, 1, [(2, 2)], 6, [(1, 1)])
        wanted = [("deal", "a", 1), ("count", "a", [(1, 1)], [(2, 2)], 6, [(1, 1)])]
        plan = plan_of(asking)
        self.assertEqual(plan, wanted)
        plan[1][2].append("X")
        plan[1][3].append("X")
        plan[1][5].append("X")
        plan.clear()
        self.assertEqual(plan_of(asking), wanted)
        self.assertEqual((asking.order, asking.sums, asking.board), ([(1, 1)], [(2, 2)], [(1, 1)]))


class IsPlan(unittest.TestCase):

    ASKING = Asking("a", [((3, 3), "A")], ("mates", "b", (5, 6), (1, 2)), [(5, 6), (9, 9)], WORKS, 1, [(20, 22)], 7,
                    [(1, 1)])

    def parts(self):
        plan = plan_of(self.ASKING)
        return plan[:-4], plan[-4], plan[-3:-1], plan[-1]

    def good(self, plan):
        self.assertIs(is_plan(self.ASKING, plan), True, short(plan))

    def bad(self, plan):
        self.assertIs(is_plan(self.ASKING, plan), False)

    def test_the_plan_itself_and_many_others(self):
        early, mate, punches, count = self.parts()
        self.good(early + [mate] + punches + [count])
        self.good([mate] + punches + [count])
        self.good([("deal", "a", 1), ("pick", "a", 9, "Z"), ("deal", "b", 36), ("pick", "a", 9, " "), mate,
                   ("deal", "a", 36), ("deal", "a", 36)] + punches + [count])
        self.good(early[::-1] + [mate] + punches + [count])

    def test_nothing(self):
        self.bad([])

    def test_the_goings_that_are_no_passes(self):
        early, mate, punches, count = self.parts()
        self.bad(early + punches + [count])
        self.bad(early + [mate, mate] + punches + [count])
        self.bad(early + [mate] + punches)
        self.bad(early + [mate] + punches[:1] + [count])
        self.bad(early + [mate] + punches[::-1] + [count])
        self.bad(early + [mate] + punches + punches[1:] + [count])
        self.bad(early + [mate] + punches + [count, count])
        self.bad(early + [mate, count] + punches)
        self.bad(early + punches + [mate, count])
        self.bad(early + [mate, ("first", "a", (1, 1))] + punches + [count])

    def test_other_parts_of_these_goings(self):
        early, mate, punches, count = self.parts()
        for other in [("mate", "a", "b", (5, 6), (1, 2), "without"), ("mate", "a", "b", (5, 6), (2, 3), "mates"),
                      ("mate", "a", "b", (4, 5), (1, 2), "mates"), ("mate", "a", "c", (5, 6), (1, 2), "mates"),
                      ("mate", "b", "a", (5, 6), (1, 2), "mates"), ("first", "a", (5, 6))]:
            self.bad(early + [other] + punches + [count])
        for other in [("punch", "b", WORKS[0]), ("punch", "a", ((20, 22), (1, 2), "less", (3, 4))), ("deal", "a", 1)]:
            self.bad(early + [mate, other, punches[1], count])
        for other in [("count", "b") + count[2:], ("count", "a", []) + count[3:],
                      ("count", "a", [(5, 6)], [], 7, [(1, 1)]), ("count", "a", [(5, 6)], [(20, 22)], 6, [(1, 1)]),
                      ("count", "a", [(5, 6)], [(20, 22)], 7, [])]:
            self.bad(early + [mate] + punches + [other])

    def test_deals_and_picks_ahead_of_punches_and_count(self):
        early, mate, punches, count = self.parts()
        for step in [("deal", "a", 1), ("pick", "a", 3, "A"), ("deal", "b", 1)]:
            self.bad(early + [mate, punches[0], step, punches[1], count])
            self.bad(early + [mate] + punches + [step, count])
            self.bad(early + [mate] + punches + [count, step])

    def test_columns(self):
        early, mate, punches, count = self.parts()
        for column in [1, 36]:
            for step in [("deal", "a", column), ("deal", "b", column), ("pick", "a", column, "A")]:
                self.good(early + [step, mate] + punches + [count])
            self.good(early + [mate, ("deal", "a", column)] + punches + [count])
        for column in [0, 37, 40, -1, 10 ** 60, -10 ** 60]:
            for step in [("deal", "a", column), ("deal", "b", column), ("pick", "a", column, "A")]:
                self.bad(early + [step, mate] + punches + [count])
            self.bad(early + [mate, ("deal", "a", column)] + punches + [count])

    def test_picks(self):
        early, mate, punches, count = self.parts()
        self.bad(early + [mate, ("pick", "a", 3, "A")] + punches + [count])
        self.bad([("pick", "b", 3, "A")] + early + [mate] + punches + [count])
        self.bad([("pick", "c", 3, "A")] + early + [mate] + punches + [count])

    def test_deals(self):
        early, mate, punches, count = self.parts()
        self.bad(early + [mate, ("deal", "b", 3)] + punches + [count])
        self.bad([("deal", "c", 3)] + early + [mate] + punches + [count])
        self.bad([("deal", "-", 3)] + early + [mate] + punches + [count])

    def test_askings_with_no_other_tray(self):
        count = ("count", "a", [], [], 6, [])
        asking = Asking("a", [], None, [])
        for plan, told in [([count], True), ([("deal", "a", 1), ("pick", "a", 2, "A"), count], True),
                           ([("deal", "b", 1), count], False), ([count, ("deal", "a", 1)], False),
                           ([("pick", "b", 1, "A"), count], False), ([count, ("pick", "a", 1, "A")], False)]:
            self.assertIs(is_plan(asking, plan), told, plan)
        asking, first = Asking("a", [], ("first", (5, 5)), []), ("first", "a", (5, 5))
        for plan, told in [([first, count], True), ([("deal", "a", 1), first, ("deal", "a", 1), count], True),
                           ([("deal", "b", 1), first, count], False), ([first, ("pick", "a", 1, "A"), count], False),
                           ([("pick", "a", 1, "A"), first, count], True), ([count], False)]:
            self.assertIs(is_plan(asking, plan), told, plan)

    def test_the_plans_of_many_askings(self):
        reckoning = Reckoning(41)
        for number in range(300):
            asking = reckoning.asking(6, "01")
            plan = plan_of(asking)
            kept = list(plan)
            self.assertIs(is_plan(asking, plan), True)
            self.assertEqual(plan, kept)


if __name__ == "__main__":
    unittest.main()
