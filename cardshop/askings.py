"""Askings, and what is refused as none."""

from cardshop.boards import make_board
from cardshop.cards import are_signs
from cardshop.errors import Meet, NoAsking, NoBoard
from cardshop.fields import are_apart, columns_of, is_field, width_of
from cardshop.passes import picked_signs
from cardshop.wholes import is_whole

SMALL_LETTERS = "abcdefghijklmnopqrstuvwxyz"
LONGEST_NAME = 8
MATING_WORDS = ("mates", "without")
WORK_WORDS = ("plus", "less", "times")
MOST_BREAKS = 3
MOST_FIGURES = 12
MOST_PICKS = 8
MOST_KEYS = 6
MOST_WORKS = 4
MOST_SUMS = 4


class Asking:
    """What is to be printed of the decks in the trays; its parts are looked at, not changed."""

    def __init__(self, deck, picks, middle, order, works=None, breaks=0, sums=None, figures=6, board=None):
        self.deck = deck
        self.picks = list(picks)
        self.middle = middle
        self.order = list(order)
        self.works = own_list(works)
        self.breaks = breaks
        self.sums = own_list(sums)
        self.figures = figures
        self.board = own_list(board)
        check_asking(self)


def own_list(values):
    """A new list of the values, an empty one for None."""
    return [] if values is None else list(values)


def same_asking(one, other):
    """Whether two askings are alike part by part."""
    return parts_of(one) == parts_of(other)


def parts_of(asking):
    """The parts of an asking, in their order."""
    return [asking.deck, asking.picks, asking.middle, asking.order, asking.works, asking.breaks, asking.sums,
            asking.figures, asking.board]


def mates_by(asking):
    """Whether an asking's middle has another tray."""
    return asking.middle is not None and asking.middle[0] in MATING_WORDS


def names_of(asking):
    """The names of an asking's trays, its own first."""
    return [asking.deck, asking.middle[1]] if mates_by(asking) else [asking.deck]


def middle_fields(asking):
    """The fields of an asking's middle, in their order."""
    if asking.middle is None:
        return []
    return list(asking.middle[2:]) if mates_by(asking) else [asking.middle[1]]


def break_fields(asking):
    """The keys of an asking that are break fields."""
    return asking.order[:asking.breaks]


def pick_passes(asking):
    """The picks of an asking as a row of passes, column by column."""
    row = []
    for pick in asking.picks:
        row.extend([("pick", column, sign) for column, sign in zip(columns_of(pick[0]), pick[1])])
    return row


def is_name(text):
    """Whether a text is the name of a tray."""
    return 1 <= len(text) <= LONGEST_NAME and all([letter in SMALL_LETTERS for letter in text])


def is_board(wires):
    """Whether a list of wires is a board as it is made, sorted."""
    try:
        board = make_board(wires)
    except (NoBoard, Meet):
        return False
    return board == wires


def ask_for(holds, words):
    """Refuse an asking where what it must keep to doesn't hold."""
    if not holds:
        raise NoAsking(words)


def check_asking(asking):
    """Refuse an asking whose parts make none."""
    check_lengths(asking)
    # Later checks walk fields, and read the middle by its word.
    check_middle_word(asking)
    check_names(asking)
    for field in fields_due(asking):
        ask_for(is_field(field[0], field[1]), "a field goes from a first to a last column, from 1 to 36")
    check_picks(asking)
    check_middle_widths(asking)
    check_counting(asking)
    check_works(asking)


def check_lengths(asking):
    """Refuse too many picks, keys, works or sums."""
    ask_for(len(asking.picks) <= MOST_PICKS, "an asking has 8 picks at most")
    ask_for(len(asking.order) <= MOST_KEYS, "an asking has 6 keys at most")
    ask_for(len(asking.works) <= MOST_WORKS, "an asking has 4 works at most")
    ask_for(len(asking.sums) <= MOST_SUMS, "an asking has 4 sums at most")


def check_middle_word(asking):
    """Refuse a middle with another word, or with more or fewer things than its word wants."""
    if asking.middle is None:
        return
    many = len(asking.middle)
    ask_for(many > 0 and (mates_by(asking) or asking.middle[0] == "first"), "a middle has one of three words")
    ask_for(many == (4 if mates_by(asking) else 2), "a middle has what its word wants")


def check_names(asking):
    """Refuse names that are none, and two that are one."""
    names = names_of(asking)
    for name in names:
        ask_for(is_name(name), "a name has one to eight small letters")
    ask_for(names[0] != names[-1] or len(names) == 1, "the two names are unlike")


def fields_due(asking):
    """All that should be fields."""
    fields = [pick[0] for pick in asking.picks] + middle_fields(asking) + asking.order + asking.sums
    for work in asking.works:
        fields.extend([work[0], work[1], work[3]])
    return fields


def check_picks(asking):
    """Refuse a pick's text that doesn't fit its field, and picks that want unlike signs of one column."""
    for pick in asking.picks:
        ask_for(len(pick[1]) == width_of(pick[0]), "a pick's text is as wide as its field")
        ask_for(are_signs(pick[1]), "a pick's text is of signs")
    ask_for(picked_signs(pick_passes(asking)) is not None, "two picks want unlike signs of one column")


def check_middle_widths(asking):
    """Refuse fields of unlike width in the middle."""
    fields = middle_fields(asking)
    if fields:
        ask_for(width_of(fields[0]) == width_of(fields[-1]), "the middle's fields are of one width")


def check_counting(asking):
    """Refuse breaks, figures and a board that the counter can't be set with."""
    ask_for(is_whole(asking.breaks) and 0 <= asking.breaks <= MOST_BREAKS, "there are 0 to 3 breaks")
    ask_for(asking.breaks <= len(asking.order), "there are no more breaks than keys")
    ask_for(is_whole(asking.figures) and 1 <= asking.figures <= MOST_FIGURES, "wheels have 1 to 12 figures")
    ask_for(is_board(asking.board), "the board is none, or not sorted")


def check_works(asking):
    """Refuse a work with another word, or whose field `to` is not apart from what it must be."""
    for place, work in enumerate(asking.works):
        ask_for(work[2] in WORK_WORDS, "a work has one of three words")
        for field in fields_kept(asking, place):
            ask_for(are_apart(work[0], field), "a work punches into a field that it must be apart from")


def fields_kept(asking, place):
    """The fields that the work at a place must leave as they are."""
    # Only the first field of the middle is read of cards that are worked.
    fields = [pick[0] for pick in asking.picks] + middle_fields(asking)[:1] + asking.order
    for other_place, work in enumerate(asking.works):
        if other_place != place:
            fields.append(work[0])
        if other_place <= place:
            fields.extend([work[1], work[3]])
    return fields
