"""The punch, which works cards."""

from cardshop.fields import number_of, punch_in


def work_card(card, work):
    """The card with the sum, difference or product of two of its numbers punched into a field."""
    one = number_of(card, work[1])
    other = number_of(card, work[3])
    if work[2] == "plus":
        value = one + other
    elif work[2] == "less":
        value = one - other
    else:
        value = one * other
    return punch_in(card, work[0], value)
