"""The sorter: dealing a deck to pockets, gathering them, and putting them back by the log."""

from cardshop.cards import SIGNS, rank_of, sign_at


def pockets_of(deck, column):
    """The 37 pockets of a deck dealt by a column, in the order of ranks."""
    pockets = [[] for sign in SIGNS]
    for card in deck:
        pockets[rank_of(sign_at(card, column))].append(card)
    return pockets


def log_of(deck, column):
    """The numbers of the pockets to which the cards go, in the deck's order."""
    return [rank_of(sign_at(card, column)) for card in deck]


def gather(some):
    """The deck of some decks, one behind the other."""
    deck = []
    for pocket in some:
        deck.extend(pocket)
    return deck


def put_back(some, numbers):
    """The deck whose cards went to some pockets in the order of a log."""
    taken = [0 for pocket in some]
    deck = []
    for number in numbers:
        deck.append(some[number][taken[number]])
        taken[number] = taken[number] + 1
    return deck


def deal_all(deck, row):
    """The deck dealt by a row of columns, one after the other, and gathered each time."""
    dealt = list(deck)
    for column in row:
        dealt = gather(pockets_of(dealt, column))
    return dealt
