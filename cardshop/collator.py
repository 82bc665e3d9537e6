"""The putter-together: mates, pouring, and the first of each part."""

from cardshop.errors import NoField, NoOrder
from cardshop.fields import columns_of, part_of, width_of
from cardshop.orders import comes_ahead, out_at


def check_order(deck, field, number):
    """Refuse a deck, by its number, that is out of order by the columns of a field."""
    place = out_at(deck, columns_of(field))
    if place is not None:
        raise NoOrder(number, place)


def check_decks(one, field, other, other_field):
    """Refuse two decks that can't be put together by two fields."""
    if width_of(field) != width_of(other_field):
        raise NoField("two decks are put together by fields of one width")
    check_order(other, other_field, 2)
    check_order(one, field, 1)


def parts_in(deck, field):
    """A dict with the parts of a deck's cards in a field."""
    parts = {}
    for card in deck:
        parts[part_of(card, field)] = True
    return parts


def with_parts(deck, field, parts):
    """The cards of a deck whose part in a field is one of a dict's."""
    return [card for card in deck if part_of(card, field) in parts]


def without_parts(deck, field, parts):
    """The cards of a deck whose part in a field is none of a dict's."""
    return [card for card in deck if part_of(card, field) not in parts]


def mate_decks(one, field, other, other_field):
    """The one's cards with a mate and without, and the other's cards with a mate and without."""
    check_decks(one, field, other, other_field)
    parts = parts_in(one, field)
    other_parts = parts_in(other, other_field)
    return (
        with_parts(one, field, other_parts),
        without_parts(one, field, other_parts),
        with_parts(other, other_field, parts),
        without_parts(other, other_field, parts),
    )


def pour_decks(one, field, other, other_field):
    """The deck of two decks poured together by their parts, the one's card first where parts are alike."""
    check_decks(one, field, other, other_field)
    places = columns_of((1, width_of(field)))
    deck = []
    taken = 0
    for card in one:
        part = part_of(card, field)
        while taken < len(other) and comes_ahead(part_of(other[taken], other_field), part, places):
            deck.append(other[taken])
            taken = taken + 1
        deck.append(card)
    return deck + other[taken:]


def first_cards(deck, field):
    """The first cards of each part of a deck in a field, and the others."""
    check_order(deck, field, 1)
    firsts = []
    others = []
    seen = {}
    for card in deck:
        part = part_of(card, field)
        if part in seen:
            others.append(card)
        else:
            firsts.append(card)
        seen[part] = True
    return (firsts, others)
