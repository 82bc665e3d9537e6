"""Rows of passes, deals and picks, and their sense."""

from cardshop.cards import sign_at
from cardshop.sorter import deal_all


def pass_all(deck, row):
    """The deck gone through a row of passes."""
    gone = list(deck)
    for step in row:
        if step[0] == "deal":
            gone = deal_all(gone, [step[1]])
        else:
            gone = [card for card in gone if sign_at(card, step[1]) == step[2]]
    return gone


def picked_signs(row):
    """The picked columns of a row of passes with their signs, or None where two picks want unlike signs of one."""
    signs = {}
    for step in row:
        if step[0] == "pick":
            if signs.setdefault(step[1], step[2]) != step[2]:
                return None
    return signs


def sense_of(row):
    """The sense of a row of passes: None, or the picked signs and the columns by which it puts in order."""
    signs = picked_signs(row)
    if signs is None:
        return None
    columns = []
    for step in reversed(row):
        # In a picked column all cards that go through are alike.
        if step[0] == "deal" and step[1] not in signs and step[1] not in columns:
            columns.append(step[1])
    return (signs, columns)
