"""The clerk, who follows a plan, jam or no jam."""

from cardshop.errors import NoOrder, NoTray
from cardshop.machines import machine_of

ASIDE = "-"


def copied_going(going):
    """A going with lists of its own."""
    return tuple([list(part) if isinstance(part, list) else part for part in going])


class Clerk:
    """A clerk with copies of trays and of a plan."""

    def __init__(self, trays, plan):
        self.trays = {ASIDE: []}
        for name in trays:
            self.trays[name] = list(trays[name])
        self.plan = [copied_going(going) for going in plan]
        # How many goings have ended.
        self.done = 0
        # The machine of the going that is on, or None, and the cards it waits to be fed with.
        self.machine = None
        self.hopper = []
        self.lines = []

    def step(self):
        """Begin a going, feed a card or end a going; whether anything was left to be done."""
        if self.machine is not None:
            if self.hopper:
                self.feed_next()
            else:
                self.end_going()
            return True
        if self.done == len(self.plan):
            return False
        self.begin_going()
        return True

    def run(self):
        """Step until the plan is at its end."""
        while self.step():
            pass

    def jam(self):
        """Set back the going that is on, if one is."""
        if self.machine is not None:
            name = self.going_name()
            self.trays[name] = self.deck_of(name)
            self.machine = None
            self.hopper = []

    def lines_out(self):
        """The lines that were printed in goings that have ended."""
        return list(self.lines)

    def deck_of(self, name):
        """The deck of a tray; of a going that is on, the one that a jam would lay there."""
        self.check_name(name)
        if self.machine is not None and name == self.going_name():
            return self.machine.back() + self.hopper
        return list(self.trays[name])

    def names_now(self):
        """The trays' names, sorted."""
        return sorted(self.trays)

    def check_name(self, name):
        """Refuse a name that no tray has."""
        if name not in self.trays:
            raise NoTray(f"no tray stands by the name {name}")

    def going_name(self):
        """The name of the tray of the next going, or of the one that is on."""
        return self.plan[self.done][1]

    def begin_going(self):
        """Take the deck out of its tray, unless the going is refused."""
        name = self.going_name()
        self.check_name(name)
        self.machine = machine_of(self.plan[self.done], self.trays)
        self.hopper = self.trays[name]
        self.trays[name] = []

    def feed_next(self):
        """Feed the next card; where it is refused, the going is set back."""
        try:
            self.machine.feed(self.hopper[0])
        except NoOrder as refusal:
            self.jam()
            raise NoOrder(refusal.deck, refusal.place) from refusal
        self.hopper.pop(0)

    def end_going(self):
        """Lay the deck into its tray, what is aside into its own, and keep the lines."""
        self.machine.finish()
        self.trays[self.going_name()] = self.machine.stayed()
        self.trays[ASIDE].extend(self.machine.laid_aside())
        self.lines.extend(self.machine.lines_out())
        self.machine = None
        self.done = self.done + 1
