"""The promise over the whole program, over many askings and trays made by a fixed reckoning."""

import collections
import unittest

from cardshop.askings import same_asking
from cardshop.asktexts import read_asking, shown_asking
from cardshop.clerk import Clerk
from cardshop.counter import Counter, may_run_over
from cardshop.desk import Desk
from cardshop.fewest import lacking_at, parted_at
from cardshop.plans import plan_of
from cardshop.reading import chosen_deck, told_lines
from helpers import Reckoning, followed, names_of, parts

SIGNS = [" 0", "01", "019A", " 01259AZ"]


def masked(asking, card):
    """A card with the columns that the asking punches made alike."""
    for work in asking.works:
        first, last = work[0]
        card = card[:first - 1] + "*" * (last - first + 1) + card[last:]
    return card


def told(clerk):
    return (clerk.lines_out(), {name: clerk.deck_of(name) for name in clerk.names_now()})


def copied(trays):
    return {name: list(deck) for name, deck in trays.items()}


class Promise(unittest.TestCase):

    def made(self, seed, many, most):
        """Askings with trays, over few signs and columns, so that parts are alike often."""
        reckoning = Reckoning(seed)
        for number in range(many):
            signs = reckoning.one_of(SIGNS)
            asking = reckoning.asking(6, signs)
            yield asking, reckoning.trays(asking, 6, most, signs), reckoning

    def test_the_lines_and_the_deck_are_those_of_the_plain_reading(self):
        for asking, trays, reckoning in self.made(3, 700, 14):
            kept = copied(trays)
            clerk = followed(trays, plan_of(asking))
            self.assertEqual(clerk.lines_out(), told_lines(asking, trays))
            self.assertEqual(clerk.deck_of("main"), chosen_deck(asking, trays))
            self.assertEqual(trays, kept)

    def test_decks_of_two_hundred_cards(self):
        for asking, trays, reckoning in self.made(4, 12, 14):
            trays = {name: reckoning.deck(6, 200, "01A", str(place)) for place, name in enumerate(sorted(trays))}
            clerk = followed(trays, plan_of(asking))
            self.assertEqual(clerk.lines_out(), told_lines(asking, trays))
            self.assertEqual(clerk.deck_of("main"), chosen_deck(asking, trays))

    def test_each_card_handed_in_lies_in_a_tray_at_the_end(self):
        for asking, trays, reckoning in self.made(5, 400, 10):
            # Some cards are there twice, and some are aside from the beginning.
            trays["main"] = trays["main"] + trays["main"][:2]
            trays["-"] = reckoning.deck(6, 2, "XY", "8")
            clerk = followed(trays, plan_of(asking))
            self.assertEqual(clerk.names_now(), sorted(trays))
            handed, left = collections.Counter(), collections.Counter()
            for name in clerk.names_now():
                handed.update([masked(asking, card) for card in trays[name]])
                left.update([masked(asking, card) for card in clerk.deck_of(name)])
            self.assertEqual(handed, left)
            # Only cards that are left in the asking's tray are punched.
            self.assertEqual(clerk.deck_of("more"), trays["more"])
            self.assertEqual(clerk.deck_of("-")[:2], trays["-"])
            for card in clerk.deck_of("-")[2:]:
                self.assertIn(card, trays["main"])
            for name in names_of(asking):
                if name != "main":
                    self.assertEqual(sorted(clerk.deck_of(name)), sorted(trays[name]))

    def test_a_jam_at_any_card(self):
        for asking, trays, reckoning in self.made(6, 40, 5):
            plan = plan_of(asking)
            wanted = told(followed(trays, plan))
            many = 0
            going_on = True
            while going_on:
                clerk = Clerk(trays, plan)
                for number in range(many):
                    going_on = clerk.step()
                clerk.jam()
                clerk.run()
                self.assertEqual(told(clerk), wanted)
                many += 1

    def test_jams_however_often(self):
        for asking, trays, reckoning in self.made(7, 150, 6):
            plan = plan_of(asking)
            wanted = told(followed(trays, plan))
            clerk = Clerk(trays, plan)
            while clerk.step():
                if reckoning.below(5) == 0:
                    clerk.jam()
            self.assertEqual(told(clerk), wanted)

    def test_no_wheel_runs_over_that_was_not_told_ahead(self):
        ran = 0
        for asking, trays, reckoning in self.made(8, 500, 12):
            deck = chosen_deck(asking, trays)
            counter = Counter(asking.order[:asking.breaks], asking.sums, asking.figures, asking.board)
            for card in deck:
                counter.feed(card)
            counter.finish()
            ahead = may_run_over(asking.sums, asking.figures, len(trays["main"]))
            for place in counter.overs():
                self.assertTrue(ahead[place])
                ran += 1
        self.assertGreater(ran, 20)

    def test_each_going_is_needed(self):
        for asking, trays, reckoning in self.made(9, 120, 1):
            plan = plan_of(asking)
            self.assertIsNone(parted_at(asking, plan))
            for at in range(len(plan)):
                self.assertTrue(parts(asking, plan[:at] + plan[at + 1:], lacking_at(asking, at)))

    def test_a_desk_does_the_same(self):
        for asking, trays, reckoning in self.made(10, 150, 6):
            text = shown_asking(asking)
            self.assertTrue(same_asking(read_asking(text), asking))
            desk = Desk()
            for name, deck in trays.items():
                desk.say(" ".join(["deck", name] + [card.replace(" ", "_") for card in deck]))
            self.assertEqual(desk.say("read " + text), told_lines(asking, trays))
            self.assertEqual(len(desk.say("plan " + text)), len(plan_of(asking)))
            self.assertEqual(desk.say("ask " + text), told_lines(asking, trays))
            lines, left = told(followed(trays, plan_of(asking)))
            for name in trays:
                self.assertEqual(desk.say(f"show {name}"), left[name])


if __name__ == "__main__":
    unittest.main()
