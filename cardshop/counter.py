"""The counter, which prints cards and totals."""

from cardshop.boards import lay_out
from cardshop.cards import mark_of
from cardshop.fields import number_of, part_of, width_of
from cardshop.wheels import Wheel
from cardshop.wholes import ten_to


class Counter:
    """A counter set with break fields, the outermost first, sum fields, the wheels' figures and a board."""

    def __init__(self, breaks, sums, figures, board):
        self.breaks = list(breaks)
        self.sums = list(sums)
        self.board = list(board)
        self.levels = [[Wheel(figures) for field in sums] for level in range(len(breaks) + 1)]
        self.before = None
        self.run_over = {}

    def feed(self, card):
        """The lines printed as a card is fed: totals where a break field changes, and the card's own."""
        lines = []
        if self.before is not None:
            lines = self.close_levels(self.changed_level(card))
        mark = mark_of(card)
        laid = lay_out(card, self.board)
        lines.append(f"{mark} {laid}")
        self.raise_level(len(self.breaks), [number_of(card, field) for field in self.sums])
        self.before = card
        return lines

    def finish(self):
        """The lines printed at the end."""
        if self.before is None:
            return [self.close_level(0)]
        return self.close_levels(0)

    def overs(self):
        """The places of the sum fields of which some wheel has run over, ever."""
        return sorted(self.run_over)

    def changed_level(self, card):
        """The level of the outermost break field in which a card has another part than the card before."""
        for place, field in enumerate(self.breaks):
            if part_of(card, field) != part_of(self.before, field):
                return place + 1
        return len(self.breaks) + 1

    def close_levels(self, outermost):
        """The totals from the innermost level to the told one."""
        lines = []
        for level in range(len(self.breaks), outermost - 1, -1):
            lines.append(self.close_level(level))
        return lines

    def close_level(self, level):
        """The total of a level, whose wheels raise those of the level next outward and are set to 0."""
        line = self.total_line(level)
        if level > 0:
            self.raise_level(level - 1, [wheel.amount() for wheel in self.levels[level]])
        for wheel in self.levels[level]:
            wheel.reset()
        return line

    def total_line(self, level):
        """The line of a level's total."""
        words = ["*" * (1 + len(self.breaks) - level)]
        words.extend([part_of(self.before, field) for field in self.breaks[:level]])
        words.extend([wheel.shown() for wheel in self.levels[level]])
        return " ".join(words)

    def raise_level(self, level, numbers):
        """Raise the wheels of a level by numbers, one for each sum field."""
        for place, number in enumerate(numbers):
            wheel = self.levels[level][place]
            wheel.rise(number)
            # A wheel forgets that it ran over once it is reset; the counter doesn't.
            if wheel.ran_over():
                self.run_over[place] = True


def lines_of(deck, breaks, sums, figures, board):
    """All lines that a counter prints of a deck."""
    counter = Counter(breaks, sums, figures, board)
    lines = []
    for card in deck:
        lines.extend(counter.feed(card))
    lines.extend(counter.finish())
    return lines


def may_run_over(sums, figures, many):
    """For each sum field, whether a wheel of it may run over with so many cards."""
    return [many * (ten_to(width_of(field)) - 1) >= ten_to(figures) for field in sums]
