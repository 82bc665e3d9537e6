"""Boards of wires, and the copier."""

from cardshop.cards import BODY_WIDTH, CARD_WIDTH, mark_of, sign_at
from cardshop.errors import Meet, NoBoard
from cardshop.wholes import is_whole


def is_column(value, most):
    """Whether a value is a column from 1 to the last one that may be."""
    return is_whole(value) and 1 <= value <= most


def make_board(wires):
    """The board of a list of wires in any order."""
    for wire in wires:
        if not is_column(wire[0], CARD_WIDTH) or not is_column(wire[1], BODY_WIDTH):
            raise NoBoard("a wire leads from a column from 1 to 40 to one from 1 to 36")
    leading = {}
    for wire in wires:
        if wire[1] in leading:
            raise Meet(leading[wire[1]], wire)
        leading[wire[1]] = wire
    return [leading[column] for column in sorted(leading)]


def lay_out(card, board):
    """The 36 signs of a card laid by a board."""
    signs = [" " for column in range(BODY_WIDTH)]
    for wire in board:
        signs[wire[1] - 1] = sign_at(card, wire[0])
    return "".join(signs)


def copy_deck(deck, board):
    """The copies of a deck's cards, laid by a board, each with its card's mark."""
    return [lay_out(card, board) + mark_of(card) for card in deck]
