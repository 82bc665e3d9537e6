"""Decks of one or two cards that part rows of passes, or orders."""

from cardshop.cards import BODY_WIDTH
from cardshop.passes import sense_of

# Any two unlike signs would do; the first one has the lesser rank.
LOW = "0"
HIGH = "1"
ONE_MARK = "0001"
OTHER_MARK = "0002"


def card_with(signs, mark):
    """The card with the signs of a dict of columns, blanks elsewhere, and a mark."""
    body = [signs.get(column, " ") for column in range(1, BODY_WIDTH + 1)]
    return "".join(body) + mark


def begins_with(columns, beginning):
    """Whether a list of columns begins with all those of another one."""
    return columns[:len(beginning)] == beginning


def shared_length(one, other):
    """How many columns two lists have alike from their beginning on."""
    length = 0
    while length < min(len(one), len(other)) and one[length] == other[length]:
        length = length + 1
    return length


def crossed_deck(signs, one, other):
    """Two cards with these signs that the order by `one` turns about, and the order by `other` leaves.

    Both are lists of columns without twofold ones and without those of the signs; `other` doesn't begin with `one`.
    """
    shared = shared_length(one, other)
    low = dict(signs)
    high = dict(signs)
    # Behind what both share the cards are unlike everywhere: so they have unlike parts in each field
    # that isn't wholly among the signs and what is shared.
    for column in range(1, BODY_WIDTH + 1):
        if column not in signs and column not in one[:shared]:
            low[column] = LOW
            high[column] = HIGH
    if shared < len(other):
        low[other[shared]] = HIGH
        high[other[shared]] = LOW
    return [card_with(high, ONE_MARK), card_with(low, OTHER_MARK)]


def parting_of_orders(signs, one, other):
    """Two cards with these signs that come out unlike by two lists of columns, or None where these are equal."""
    if one == other:
        return None
    if begins_with(other, one):
        return crossed_deck(signs, other, one)
    return crossed_deck(signs, one, other)


def stopped_card(signs, others):
    """A card that goes through the picks of `others`, but not of `signs`, or None where there is none."""
    for column in sorted(signs):
        if others.get(column) != signs[column]:
            seen = dict(others)
            seen.setdefault(column, HIGH if signs[column] == LOW else LOW)
            return card_with(seen, ONE_MARK)
    return None


def parting_of_picks(signs, others):
    """A deck of one card that goes through one of two dicts of picks alone, or None where these are equal."""
    card = stopped_card(signs, others)
    if card is None:
        card = stopped_card(others, signs)
    return None if card is None else [card]


def parting_of(row, other):
    """A deck of one or two cards that comes out of two rows of passes unlike, or None where there is none."""
    sense = sense_of(row)
    other_sense = sense_of(other)
    if sense == other_sense:
        return None
    if sense is None:
        return [card_with(other_sense[0], ONE_MARK)]
    if other_sense is None:
        return [card_with(sense[0], ONE_MARK)]
    deck = parting_of_picks(sense[0], other_sense[0])
    if deck is None:
        deck = parting_of_orders(sense[0], sense[1], other_sense[1])
    return deck
