"""How boards are written and read."""

from cardshop.boards import make_board
from cardshop.cards import BODY_WIDTH, CARD_WIDTH
from cardshop.errors import NoBoard
from cardshop.fields import shown_field
from cardshop.wholes import read_whole


def read_span(text, most):
    """The first and the last column of one end of a piece, up to the last column that may be."""
    columns = [read_whole(end) for end in text.split("-")]
    if None in columns or len(columns) > 2:
        raise NoBoard(f"{text!r} writes no columns")
    # One column is written by itself alone.
    if len(columns) == 2 and columns[0] >= columns[1]:
        raise NoBoard(f"the columns of {text!r} don't rise")
    if columns[0] < 1 or columns[-1] > most:
        raise NoBoard(f"{text!r} writes columns beyond those of a board")
    return (columns[0], columns[-1])


def read_piece(text):
    """The wires of a piece, rising."""
    ends = text.split(">")
    if len(ends) != 2:
        raise NoBoard(f"{text!r} writes no wires")
    here = read_span(ends[0], CARD_WIDTH)
    there = read_span(ends[1], BODY_WIDTH)
    if here[1] - here[0] != there[1] - there[0]:
        raise NoBoard(f"{text!r} has ends of unlike lengths")
    return [(here[0] + step, there[0] + step) for step in range(here[1] - here[0] + 1)]


def read_board(text):
    """The board that a text writes."""
    if text == "":
        return []
    wires = []
    for piece in text.split(", "):
        wires.extend(read_piece(piece))
    return make_board(wires)


def pieces_of(board):
    """The wires of a board in pieces as long as can be."""
    pieces = []
    for wire in board:
        if pieces and pieces[-1][-1] == (wire[0] - 1, wire[1] - 1):
            pieces[-1].append(wire)
        else:
            pieces.append([wire])
    return pieces


def shown_piece(wires):
    """The text of a piece."""
    # Both ends are written as fields are, though one may reach into the mark.
    here = shown_field((wires[0][0], wires[-1][0]))
    there = shown_field((wires[0][1], wires[-1][1]))
    return f"{here}>{there}"


def shown_board(board):
    """The text that writes a board."""
    return ", ".join([shown_piece(piece) for piece in pieces_of(board)])
