"""Which card comes ahead of another one, and decks in order by columns."""

from cardshop.cards import rank_of, sign_at


def ranks_at(card, columns):
    """The ranks of a card's signs in a list of columns."""
    return [rank_of(sign_at(card, column)) for column in columns]


def comes_ahead(card, other, columns):
    """Whether a card comes ahead of another one by a list of columns."""
    # Lists of one length are parted by their first unlike place, just as the cards are to be.
    return ranks_at(card, columns) < ranks_at(other, columns)


def out_at(deck, columns):
    """The first place at which a deck is out of order by a list of columns, or None."""
    for place in range(1, len(deck)):
        if comes_ahead(deck[place], deck[place - 1], columns):
            return place
    return None


def put_in_order(deck, columns):
    """The deck in order by a list of columns; cards of which neither comes ahead stay as they were."""
    return sorted(deck, key=lambda card: ranks_at(card, columns))
