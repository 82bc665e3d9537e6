"""The machines, which are fed card by card and can put back what they were fed."""

from cardshop.cards import SIGNS, rank_of, sign_at
from cardshop.collator import check_order, parts_in
from cardshop.counter import Counter
from cardshop.errors import NoOrder, NoTray
from cardshop.fields import columns_of, part_of
from cardshop.orders import comes_ahead
from cardshop.punch import work_card
from cardshop.sorter import gather, put_back


class Machine:
    """What all machines share: pockets and their log. Of the first pocket comes the deck, the others are aside."""

    def __init__(self):
        self.pockets = []
        self.log = []

    def make_pockets(self, many):
        """Set up so many empty pockets."""
        self.pockets = [[] for number in range(many)]

    def lay_in(self, card, number):
        """Lay a card on the end of a pocket."""
        self.pockets[number].append(card)
        self.log.append(number)

    def finish(self):
        """Nothing is left to be done, but by a printer."""
        return

    def back(self):
        """The cards fed so far, in the order in which they were fed."""
        return put_back(self.pockets, self.log)

    def stayed(self):
        """What comes to be the deck."""
        return list(self.pockets[0])

    def laid_aside(self):
        """What is put aside."""
        return gather(self.pockets[1:])

    def lines_out(self):
        """The lines printed so far."""
        return []


class Dealer(Machine):
    """The sorter, dealing by a column."""

    def __init__(self, column):
        Machine.__init__(self)
        self.make_pockets(len(SIGNS))
        self.column = column

    def feed(self, card):
        """Lay a card into the pocket of its sign."""
        self.lay_in(card, rank_of(sign_at(card, self.column)))

    def stayed(self):
        """All pockets, gathered."""
        return gather(self.pockets)

    def laid_aside(self):
        """Nothing."""
        return []


class Picker(Machine):
    """The sorter, picking the cards with a sign in a column."""

    def __init__(self, column, sign):
        Machine.__init__(self)
        self.make_pockets(2)
        self.column = column
        self.sign = sign

    def feed(self, card):
        """Keep a card with the sign, lay another one aside."""
        self.lay_in(card, 0 if sign_at(card, self.column) == self.sign else 1)


class OrderedMachine(Machine):
    """What a mater and a firster share: the cards that stay and the others, fed in order by a field."""

    def __init__(self, field):
        Machine.__init__(self)
        self.make_pockets(2)
        self.field = field
        self.last = None

    def check_next(self, card):
        """Refuse a card that comes ahead of the card fed last."""
        if self.last is not None and comes_ahead(card, self.last, columns_of(self.field)):
            raise NoOrder(1, len(self.log))

    def lay_next(self, card, stays):
        """Lay a card that was not refused to those that stay, or to the others."""
        self.lay_in(card, 0 if stays else 1)
        self.last = card


class Mater(OrderedMachine):
    """The putter-together, keeping cards with a mate in another deck, or those without."""

    def __init__(self, field, other, other_field, word):
        check_order(other, other_field, 2)
        OrderedMachine.__init__(self, field)
        self.other_parts = parts_in(other, other_field)
        self.wants_mates = word == "mates"

    def feed(self, card):
        """Keep a card by whether it has a mate."""
        self.check_next(card)
        has_mate = part_of(card, self.field) in self.other_parts
        self.lay_next(card, has_mate == self.wants_mates)


class Firster(OrderedMachine):
    """The putter-together, keeping the first card of each part."""

    def feed(self, card):
        """Keep a card of another part than that of the card fed last."""
        self.check_next(card)
        is_first = self.last is None or part_of(card, self.field) != part_of(self.last, self.field)
        self.lay_next(card, is_first)


class Puncher(Machine):
    """The punch, working each card."""

    def __init__(self, work):
        Machine.__init__(self)
        self.make_pockets(1)
        self.work = work

    def feed(self, card):
        """Lay the worked card into the one pocket."""
        self.lay_in(work_card(card, self.work), 0)


class Printer(Machine):
    """The counter, printing the cards and the totals."""

    def __init__(self, breaks, sums, figures, board):
        Machine.__init__(self)
        self.make_pockets(1)
        self.counter = Counter(breaks, sums, figures, board)
        self.lines = []

    def feed(self, card):
        """Print a card and lay it into the one pocket."""
        self.lines.extend(self.counter.feed(card))
        self.lay_in(card, 0)

    def finish(self):
        """Print the totals of the end."""
        self.lines.extend(self.counter.finish())

    def lines_out(self):
        """The lines printed so far."""
        return list(self.lines)


def mater_of(going, trays):
    """The mater of a going, made with the deck of its second name."""
    name = going[2]
    if name not in trays:
        raise NoTray(f"no tray stands by the name {name}")
    return Mater(going[3], trays[name], going[4], going[5])


def machine_of(going, trays):
    """A new machine for a going."""
    kind = going[0]
    if kind == "deal":
        return Dealer(going[2])
    if kind == "pick":
        return Picker(going[2], going[3])
    if kind == "mate":
        return mater_of(going, trays)
    if kind == "first":
        return Firster(going[2])
    if kind == "punch":
        return Puncher(going[2])
    return Printer(going[2], going[3], going[4], going[5])
