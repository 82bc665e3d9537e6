"""The refusals of the shop."""


class ShopError(ValueError):
    """Any refusal."""


class NoCard(ShopError):
    """A text is no sign or no card."""


class NoField(ShopError):
    """Two columns or a text make no field, or two fields don't fit each other."""


class NoOrder(ShopError):
    """A deck is out of order: `deck` is its number, `place` where it is so first."""

    def __init__(self, deck, place):
        ShopError.__init__(self, f"deck {deck} is out of order at place {place}")
        self.deck = deck
        self.place = place


class NoBoard(ShopError):
    """Wires or a text make no board."""


class Meet(ShopError):
    """Two wires of a board, `one` and `other`, lead to one column."""

    def __init__(self, one, other):
        ShopError.__init__(self, f"the wires {one} and {other} meet")
        self.one = one
        self.other = other


class NoAsking(ShopError):
    """Parts or a text make no asking."""


class NoTray(ShopError):
    """No tray stands by a name, or none can."""


class NoPlan(ShopError):
    """A list is no plan of the told kinds."""


class NoRow(ShopError):
    """A row is none that the desk knows."""
