"""What several test files share: cards, askings and trays made by a fixed reckoning, and how a plan is followed."""

from cardshop.askings import Asking
from cardshop.clerk import Clerk
from cardshop.errors import NoAsking, ShopError
from cardshop.reading import chosen_deck, told_lines


def card(text, mark):
    return text.ljust(36) + mark


def names_of(asking):
    """The names of an asking's trays, sorted."""
    if asking.middle is not None and len(asking.middle) == 4:
        return sorted([asking.deck, asking.middle[1]])
    return [asking.deck]


def followed(trays, plan):
    """A clerk who has followed a plan."""
    clerk = Clerk(trays, plan)
    clerk.run()
    return clerk


def parts(asking, plan, trays):
    """Whether a clerk who follows a plan is refused, or parts from the plain reading."""
    try:
        clerk = followed(trays, plan)
    except ShopError:
        return True
    return (clerk.lines_out() != told_lines(asking, trays)
            or clerk.deck_of(asking.deck) != chosen_deck(asking, trays))


class Reckoning:
    """Numbers that look like chance, but are the same each time."""

    def __init__(self, seed):
        self.state = seed

    def below(self, many):
        self.state = (self.state * 6364136223846793005 + 1442695040888963407) % 2 ** 64
        return (self.state >> 33) % many

    def one_of(self, things):
        return things[self.below(len(things))]

    def field(self, columns):
        first = 1 + self.below(columns)
        return (first, min(columns, first + self.below(3)))

    def text(self, width, signs):
        return "".join([self.one_of(signs) for place in range(width)])

    def deck(self, columns, many, signs, mark="0"):
        return [card(self.text(columns, signs), mark + str(number).zfill(3)) for number in range(many)]

    def middle(self, columns):
        word = self.one_of([None, "mates", "without", "first"])
        if word is None:
            return None
        field = self.field(columns)
        if word == "first":
            return (word, field)
        first = 1 + self.below(columns - (field[1] - field[0]))
        return (word, "other", field, (first, first + field[1] - field[0]))

    def works(self):
        works = [((20, 22), (1, 2), self.one_of(["plus", "less", "times"]), (2, 3)),
                 ((24, 24), (20, 22), self.one_of(["plus", "less", "times"]), (1, 1)),
                 ((26, 29), (21, 22), self.one_of(["plus", "less", "times"]), (20, 24))]
        return works[:self.below(4)]

    def parts_of_asking(self, columns, signs):
        picks = []
        for number in range(self.one_of([0, 0, 1, 1, 2])):
            field = self.field(columns)
            picks.append((field, self.text(field[1] - field[0] + 1, signs)))
        order = [self.field(columns) for number in range(self.one_of([0, 1, 1, 2, 3]))]
        sums = [self.one_of([(1, 2), (2, 3), (20, 22), (26, 29), (24, 24)]) for number in range(self.below(3))]
        board = [(column, column) for column in range(1, 37) if self.below(2) == 1]
        return ["main", picks, self.middle(columns), order, self.works(), self.below(min(3, len(order)) + 1), sums,
                1 + self.below(5), board]

    def asking(self, columns, signs):
        """An asking over the first so many columns, with works on others."""
        while True:
            try:
                return Asking(*self.parts_of_asking(columns, signs))
            except NoAsking:
                continue

    def trays(self, asking, columns, most, signs):
        """Trays with the asking's names and one more."""
        trays = {"more": self.deck(columns, 2, signs, "9")}
        for name in names_of(asking):
            trays[name] = self.deck(columns, self.below(most + 1), signs, str(len(trays)))
        return trays
