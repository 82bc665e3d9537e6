"""Fields of a card: what stands in them, and how they are written."""

from cardshop.cards import BODY_WIDTH
from cardshop.errors import NoField
from cardshop.wholes import FIGURES, is_whole, number_by, read_whole, ten_to


def is_field(first, last):
    """Whether two values make a field."""
    return is_whole(first) and is_whole(last) and 1 <= first <= last <= BODY_WIDTH


def field_of(first, last):
    """The field from a first to a last column."""
    if not is_field(first, last):
        raise NoField("a field goes from a first to a last column, from 1 to 36, the first no greater than the last")
    return (first, last)


def width_of(field):
    """How many columns a field has."""
    return field[1] - field[0] + 1


def columns_of(field):
    """The columns of a field, rising."""
    return list(range(field[0], field[1] + 1))


def are_apart(one, other):
    """Whether two fields share no column."""
    return one[1] < other[0] or other[1] < one[0]


def part_of(card, field):
    """The text of a card in a field."""
    return card[field[0] - 1:field[1]]


def number_of(card, field):
    """The number of a card in a field: figures as they are, any other sign as a nought."""
    figures = [sign if sign in FIGURES else "0" for sign in part_of(card, field)]
    return number_by("".join(figures))


def punch_in(card, field, value):
    """The card with the last figures of a whole number in a field, as wide as the field."""
    width = width_of(field)
    punched = str(value % ten_to(width)).zfill(width)
    return card[:field[0] - 1] + punched + card[field[1]:]


def read_field(text):
    """The field that a text writes."""
    columns = [read_whole(end) for end in text.split("-")]
    # A field of one column is written by that one alone.
    if len(columns) > 2 or (len(columns) == 2 and columns[0] == columns[1]):
        raise NoField(f"{text!r} writes no field")
    return field_of(columns[0], columns[-1])


def shown_field(field):
    """The text that writes a field."""
    first = field[0]
    last = field[1]
    if first == last:
        return str(first)
    return f"{first}-{last}"
