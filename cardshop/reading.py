"""Askings read plainly."""

from cardshop.askings import break_fields, middle_fields, names_of
from cardshop.collator import first_cards, parts_in, with_parts, without_parts
from cardshop.counter import lines_of
from cardshop.errors import NoTray
from cardshop.fields import columns_of, part_of
from cardshop.orders import put_in_order
from cardshop.punch import work_card


def check_trays(asking, trays):
    """Refuse trays in which a name of an asking doesn't stand."""
    for name in names_of(asking):
        if name not in trays:
            raise NoTray(f"no tray stands by the name {name}")


def picked_deck(asking, deck):
    """The cards whose part in each pick's field is the pick's text."""
    left = deck
    for pick in asking.picks:
        left = [card for card in left if part_of(card, pick[0]) == pick[1]]
    return left


def middle_deck(asking, deck, trays):
    """The cards that an asking's middle leaves, in its order."""
    if asking.middle is None:
        return deck
    fields = middle_fields(asking)
    ordered = put_in_order(deck, columns_of(fields[0]))
    if asking.middle[0] == "first":
        return first_cards(ordered, fields[0])[0]
    parts = parts_in(trays[asking.middle[1]], fields[1])
    if asking.middle[0] == "mates":
        return with_parts(ordered, fields[0], parts)
    return without_parts(ordered, fields[0], parts)


def key_columns(asking):
    """All columns of the keys, key by key."""
    columns = []
    for key in asking.order:
        columns.extend(columns_of(key))
    return columns


def worked_card(asking, card):
    """A card worked by each work of an asking."""
    worked = card
    for work in asking.works:
        worked = work_card(worked, work)
    return worked


def chosen_deck(asking, trays):
    """The deck that comes of an asking, read plainly."""
    check_trays(asking, trays)
    deck = picked_deck(asking, trays[asking.deck])
    deck = middle_deck(asking, deck, trays)
    deck = put_in_order(deck, key_columns(asking))
    return [worked_card(asking, card) for card in deck]


def told_lines(asking, trays):
    """The lines that are printed of an asking, read plainly."""
    deck = chosen_deck(asking, trays)
    return lines_of(deck, break_fields(asking), asking.sums, asking.figures, asking.board)
