import itertools
import unittest

from cardshop.askings import Asking
from cardshop.cards import is_card, mark_of
from cardshop.errors import NoPlan
from cardshop.fewest import lacking_at, parted_at
from cardshop.plans import is_plan, plan_of
from helpers import Reckoning, names_of, parts

WORK = ((20, 22), (1, 2), "plus", (3, 4))
COUNT = ("count", "a", [], [], 6, [])
MATES = ("mates", "b", (5, 6), (1, 2))
WITHOUT = ("without", "b", (5, 6), (1, 2))
FIRST = ("first", (5, 6))
# Those of which test_plans tells the plans, and some more.
ASKINGS = [Asking("a", picks, middle, order, works) for works in [[], [WORK, ((24, 24), (20, 20), "less", (1, 1))]]
           for picks, middle, order in [
    ([], None, []), ([], None, [(1, 3)]), ([], None, [(3, 5), (4, 6), (2, 3)]), ([((3, 4), "A ")], None, [(2, 5)]),
    ([((9, 9), "0")], None, []), ([((9, 9), "1")], None, [(9, 10)]),
    ([((1, 8), "ABCDEFGH"), ((9, 16), " 0123456")], None, []),
] + [
    (picks, middle, order) for middle in [MATES, WITHOUT, FIRST] for picks, order in [
        ([], []), ([], [(5, 6)]), ([], [(5, 6), (1, 1)]), ([], [(1, 1)]), ([], [(4, 7)]), ([], [(6, 6)]),
        ([], [(6, 6), (1, 1)]), ([], [(5, 5), (1, 1)]), ([], [(6, 6), (5, 5)]), ([], [(6, 6), (5, 5), (1, 1)]),
        ([], [(1, 1), (5, 6), (2, 3)]), ([], [(1, 1), (5, 5), (2, 2), (6, 6), (3, 3)]),
        ([((5, 5), "X")], [(1, 1)]), ([((5, 6), "X ")], [(1, 1)]), ([((6, 6), " ")], [(6, 6), (5, 5), (1, 1)]),
        ([((5, 6), "01")], []), ([((8, 9), "10"), ((9, 9), "0")], [(8, 8), (10, 10)]),
    ]]]


class Told(unittest.TestCase):

    def check_trays(self, asking, plan, trays):
        """The trays told keep to their bounds, and a clerk who follows the plan there parts from the reading."""
        self.assertEqual(sorted(trays), names_of(asking))
        for deck in trays.values():
            self.assertLessEqual(len(deck), 2)
            self.assertEqual(len({mark_of(card) for card in deck}), len(deck))
            for card in deck:
                self.assertTrue(is_card(card))
        self.assertTrue(parts(asking, plan, trays), (vars(asking), plan, trays))

    def parted(self, asking, plan):
        trays = parted_at(asking, plan)
        self.assertIsNotNone(trays, (vars(asking), plan))
        self.check_trays(asking, plan, trays)


class PartedAt(Told):

    def test_the_askings_own_plan(self):
        for asking in ASKINGS:
            self.assertIsNone(parted_at(asking, plan_of(asking)))

    def test_one_going_less(self):
        for asking in ASKINGS:
            plan = plan_of(asking)
            for at in range(len(plan)):
                fewer = plan[:at] + plan[at + 1:]
                if plan[at][0] in ["deal", "pick"]:
                    self.parted(asking, fewer)
                else:
                    with self.assertRaises(NoPlan):
                        parted_at(asking, fewer)

    def check(self, asking, plan):
        """Trays where the plan parts; where none are told, the plan does as the asking's at many trays."""
        trays = parted_at(asking, plan)
        if trays is not None:
            self.check_trays(asking, plan, trays)
            return False
        reckoning = Reckoning(len(plan))
        self.assertGreaterEqual(len(plan), len(plan_of(asking)))
        for number in range(3):
            trays = reckoning.trays(asking, 10, 6, "01X ")
            self.assertFalse(parts(asking, plan, trays), (vars(asking), plan, trays))
        return True

    def test_one_going_more(self):
        for asking in ASKINGS[::3]:
            plan = plan_of(asking)
            for at in range(len(plan)):
                for going in [("deal", "a", 1), ("deal", "a", 5), ("deal", "a", 6), ("deal", "a", 36), ("deal", "b", 1),
                              ("deal", "b", 2), ("deal", "b", 36), ("pick", "a", 1, "A"), ("pick", "a", 5, "X")]:
                    more = plan[:at] + [going] + plan[at:]
                    if is_plan(asking, more):
                        self.check(asking, more)

    def test_two_goings_exchanged(self):
        for asking in ASKINGS[::2]:
            plan = plan_of(asking)
            for one, other in itertools.combinations(range(len(plan)), 2):
                turned = list(plan)
                turned[one], turned[other] = plan[other], plan[one]
                if is_plan(asking, turned):
                    self.check(asking, turned)

    def test_plans_that_do_the_same_in_another_way(self):
        for asking in ASKINGS:
            plan = plan_of(asking)
            # A pick of a column that is picked already, deals that are dealt over, picks behind the deals.
            early = [going for going in plan if going[0] == "pick"]
            rest = plan[len(early):]
            deals = list(itertools.takewhile(lambda going: going[0] == "deal", rest))
            self.assertIsNone(parted_at(asking, early[::-1] + rest))
            self.assertIsNone(parted_at(asking, early + plan))
            self.assertIsNone(parted_at(asking, deals + early + rest))
            if asking.middle != FIRST:
                self.assertIsNone(parted_at(asking, deals + early + rest[len(deals):]))
        asking = Asking("a", [((3, 3), "X")], None, [(1, 3)])
        for plan in [
            [("deal", "a", 3), ("deal", "a", 2), ("deal", "a", 1), ("pick", "a", 3, "X"), COUNT],
            [("deal", "a", 1), ("pick", "a", 3, "X"), ("deal", "a", 2), ("deal", "a", 3), ("deal", "a", 1), COUNT],
        ]:
            self.assertIsNone(parted_at(asking, plan))
        # The deals behind the middle do all.
        asking = Asking("a", [], WITHOUT, [(5, 6), (1, 1)])
        mate = ("mate", "a", "b", (5, 6), (1, 2), "without")
        base = [("deal", "b", 2), ("deal", "b", 1), ("deal", "a", 6), ("deal", "a", 5), mate]
        late = [("deal", "a", 1), ("deal", "a", 6), ("deal", "a", 5), COUNT]
        self.assertIsNone(parted_at(asking, base + late))
        self.assertIsNone(parted_at(asking, [("deal", "b", 9)] + base + [("deal", "a", 5)] + late))
        self.parted(asking, base + late[1:])

    def test_the_other_deck_in_order_by_more_than_is_needed(self):
        asking = Asking("a", [], MATES, [])
        mate = ("mate", "a", "b", (5, 6), (1, 2), "mates")
        own = [("deal", "a", 6), ("deal", "a", 5)]
        self.assertIsNone(parted_at(asking, own + [("deal", "b", 3), ("deal", "b", 2), ("deal", "b", 1), mate, COUNT]))
        self.parted(asking, own + [("deal", "b", 2), ("deal", "b", 1), ("deal", "b", 3), mate, COUNT])
        self.parted(asking, own + [("deal", "b", 1), ("deal", "b", 2), mate, COUNT])
        self.parted(asking, own + [("deal", "b", 1), mate, COUNT])
        self.parted(asking, own + [mate, COUNT])

    def test_another_card_of_a_part_is_the_first(self):
        asking, first = Asking("a", [], FIRST, [(5, 6), (1, 1)]), ("first", "a", (5, 6))
        own = [("deal", "a", 6), ("deal", "a", 5)]
        self.parted(asking, [("deal", "a", 1)] + own + [first, COUNT])
        self.parted(asking, [("deal", "a", 6), ("deal", "a", 5), ("deal", "a", 1), first, COUNT])
        self.assertIsNone(parted_at(asking, own + [first, ("deal", "a", 6), ("deal", "a", 5), COUNT]))
        # Deals behind `first` of what parts no cards, as each part has but one.
        self.assertIsNone(parted_at(asking, own + [first, ("deal", "a", 1), ("deal", "a", 6), ("deal", "a", 5), COUNT]))
        self.parted(asking, own + [first, ("deal", "a", 1), COUNT])
        self.parted(asking, own + [first, ("deal", "a", 6), COUNT])

    def test_picks(self):
        for middle, going in [(None, []), (MATES, [("mate", "a", "b", (5, 6), (1, 2), "mates")]),
                              (WITHOUT, [("mate", "a", "b", (5, 6), (1, 2), "without")]),
                              (FIRST, [("first", "a", (5, 6))])]:
            asking = Asking("a", [((5, 6), "X ")], middle, [])
            plan = plan_of(asking)
            for picks in [[], ["5X"], ["6 "], ["5X", "6X"], ["5X", "6 ", "7Z"], ["5X", "6 ", "6X"], ["50", "6 "],
                          ["1A"], ["5X", "5Y"], ["5 ", "6X"]]:
                own = [("pick", "a", int(text[0]), text[1]) for text in picks]
                self.parted(asking, own + plan[2:])
            self.assertIsNone(parted_at(asking, [("pick", "a", 6, " "), ("pick", "a", 5, "X"), ("deal", "a", 5),
                                                 ("pick", "a", 5, "X")] + plan[2:]))

    def test_no_plan(self):
        for asking in ASKINGS:
            plan = plan_of(asking)
            for wrong in [[], plan + [plan[-1]], plan[:-1], plan + [("deal", "a", 1)], [("deal", "c", 1)] + plan,
                          [("deal", "a", 0)] + plan, [("deal", "a", 37)] + plan, [("pick", "a", 40, "A")] + plan,
                          [("pick", "b", 1, "A")] + plan]:
                with self.assertRaises(NoPlan):
                    parted_at(asking, wrong)

    def test_many_plans(self):
        reckoning = Reckoning(42)
        same = 0
        for number in range(250):
            asking = reckoning.asking(5, "01")
            own = plan_of(asking)
            self.assertIsNone(parted_at(asking, own))
            for turn in range(8):
                plan = list(own)
                for change in range(1 + reckoning.below(3)):
                    self.change(reckoning, plan)
                if is_plan(asking, plan):
                    same += self.check(asking, plan)
        # Plans of both kinds were met with.
        self.assertGreater(same, 100)

    def change(self, reckoning, plan):
        kind = reckoning.below(4)
        place = reckoning.below(len(plan))
        if kind == 0 and plan[place][0] in ["deal", "pick"]:
            plan.pop(place)
        elif kind == 1:
            plan.insert(place, ("deal", reckoning.one_of(["main", "main", "other"]), 1 + reckoning.below(5)))
        elif kind == 2:
            plan.insert(place, ("pick", "main", 1 + reckoning.below(5), reckoning.one_of("01")))
        else:
            other = reckoning.below(len(plan))
            plan[place], plan[other] = plan[other], plan[place]

    def test_a_plan_of_a_hundred_goings(self):
        asking = Asking("a", [], MATES, [(1, 4)])
        plan = plan_of(asking)
        self.assertIsNone(parted_at(asking, [("deal", "b", 7)] * (100 - len(plan)) + plan))
        self.parted(asking, [("deal", "a", 7)] * (100 - len(plan)) + plan)

    def test_no_shorter_plan_does_it(self):
        """Every plan of the told kinds with fewer goings, over the columns at hand."""
        for picks, middle, order in [
            ([], None, [(1, 2)]), ([((1, 1), "A")], None, [(2, 3)]), ([], ("first", (1, 2)), [(2, 2)]),
            ([((1, 1), "A")], ("first", (1, 2)), [(3, 3)]), ([], ("mates", "b", (1, 1), (2, 2)), [(2, 2)]),
            ([], ("without", "b", (1, 1), (2, 2)), [(1, 2)]),
        ]:
            asking = Asking("a", picks, middle, order)
            own = plan_of(asking)
            fixed = [going for going in own if going[0] not in ["deal", "pick"]]
            steps = [("deal", "a", column) for column in [1, 2, 3]] + [("pick", "a", 1, "A"), ("deal", "b", 2)]
            for many in range(len(own) - len(fixed)):
                for row in itertools.product(steps, repeat=many):
                    for cut in range(many + 1):
                        plan = list(row[:cut]) + fixed[:-1] + list(row[cut:]) + fixed[-1:]
                        if is_plan(asking, plan):
                            self.assertIsNotNone(parted_at(asking, plan), (vars(asking), plan))

    def test_what_is_told_is_the_askers_own(self):
        asking = Asking("a", [], MATES, [(1, 1)])
        plan = plan_of(asking)
        fewer = plan[1:]
        kept = list(fewer)
        trays = parted_at(asking, fewer)
        trays["a"].append("X")
        trays["b"].append("X")
        trays["c"] = []
        self.check_trays(asking, fewer, parted_at(asking, fewer))
        self.assertEqual(fewer, kept)


class LackingAt(Told):

    def test_each_going_of_each_plan(self):
        for asking in ASKINGS:
            plan = plan_of(asking)
            for at in range(len(plan)):
                trays = lacking_at(asking, at)
                self.check_trays(asking, plan[:at] + plan[at + 1:], trays)
                self.assertFalse(parts(asking, plan, trays))

    def test_many_askings(self):
        reckoning = Reckoning(43)
        for number in range(300):
            asking = reckoning.asking(6, "01 Z")
            plan = plan_of(asking)
            for at in range(len(plan)):
                self.check_trays(asking, plan[:at] + plan[at + 1:], lacking_at(asking, at))

    def test_what_is_told_is_the_askers_own(self):
        for asking in ASKINGS[::4]:
            for at in range(len(plan_of(asking))):
                trays = lacking_at(asking, at)
                kept = {name: list(deck) for name, deck in trays.items()}
                for deck in trays.values():
                    deck.append("X")
                self.assertEqual(lacking_at(asking, at), kept)


if __name__ == "__main__":
    unittest.main()
