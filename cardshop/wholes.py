"""Whole numbers, and how they are written by figures."""

FIGURES = "0123456789"


def is_whole(value):
    """Whether a value is a whole number; True and False are none."""
    return isinstance(value, int) and not isinstance(value, bool)


def ten_to(power):
    """Ten to a power from 0 on."""
    value = 1
    for step in range(power):
        value = value * 10
    return value


def number_by(figures):
    """The number of a text of figures, noughts ahead or not; 0 of none."""
    # Python's own int refuses very long texts, with an error that is none of the shop's.
    value = 0
    for figure in figures:
        value = value * 10 + FIGURES.index(figure)
    return value


def read_whole(text):
    """The number that a text writes without noughts ahead, or None where it writes none."""
    # Python's own isdigit also takes figures of other scripts.
    if text == "" or not all([sign in FIGURES for sign in text]):
        return None
    if text[0] == "0" and text != "0":
        return None
    return number_by(text)
