"""Signs and cards."""

from cardshop.errors import NoCard

SIGNS = " 0123456789ABCDEFGHIJKLMNOPQRSTUVWXYZ"
CARD_WIDTH = 40
# The columns ahead of the mark.
BODY_WIDTH = 36


def is_sign(text):
    """Whether a text is one of the 37 signs."""
    return len(text) == 1 and text in SIGNS


def are_signs(text):
    """Whether a text holds signs alone."""
    return all([sign in SIGNS for sign in text])


def rank_of(sign):
    """The number of a sign in the order of signs, from 0 for the blank on."""
    if not is_sign(sign):
        raise NoCard(f"{sign!r} is no sign")
    return SIGNS.index(sign)


def is_card(text):
    """Whether a text is a card."""
    return len(text) == CARD_WIDTH and are_signs(text)


def card_of(text):
    """The card of a text of signs, with blanks behind it where it is shorter."""
    if len(text) > CARD_WIDTH or not are_signs(text):
        raise NoCard(f"{text!r} makes no card")
    return text.ljust(CARD_WIDTH)


def mark_of(card):
    """The last four columns of a card."""
    return card[BODY_WIDTH:]


def sign_at(card, column):
    """The sign of a card in a column, these counted from 1 on."""
    return card[column - 1]


def shown_blanks(text):
    """A text of signs as it stands in rows, its blanks as `_`."""
    return text.replace(" ", "_")


def read_blanks(word):
    """The text that a word of a row writes."""
    return word.replace("_", " ")
