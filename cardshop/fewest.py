"""Trays at which a plan of the told kinds parts from its asking, and why each going of a plan is needed."""

from cardshop.askings import mates_by, middle_fields, names_of
from cardshop.cards import mark_of
from cardshop.errors import NoPlan
from cardshop.fields import columns_of, part_of
from cardshop.partings import (ONE_MARK, OTHER_MARK, begins_with, card_with, crossed_deck, parting_of,
                               parting_of_orders)
from cardshop.passes import sense_of
from cardshop.plans import (cut_behind, is_first, is_pass, is_plan, middle_columns, plan_of, wanted_columns,
                            wanted_signs)


def passes_of(plan, name):
    """The deals and picks of a tray in a plan, as a row of passes."""
    return [(going[0],) + going[2:] for going in plan if is_pass(going) and going[1] == name]


def early_part(plan):
    """The goings ahead of the first one that is no deal or pick."""
    length = 0
    while is_pass(plan[length]):
        length = length + 1
    return plan[:length]


def mate_of(asking, card):
    """A card for the other tray that is a mate of a card."""
    fields = middle_fields(asking)
    signs = {}
    for column, sign in zip(columns_of(fields[1]), part_of(card, fields[0])):
        signs[column] = sign
    # Of cards with unlike marks the mates have unlike ones.
    return card_with(signs, mark_of(card))


def trays_with(asking, deck, other):
    """Trays with a deck in the asking's tray and, where it has another one, a deck in that."""
    trays = {asking.deck: deck}
    for name in names_of(asking)[1:]:
        trays[name] = other
    return trays


def mated_trays(asking, deck):
    """Trays in which each card of the asking's deck has a mate, where there is another tray."""
    return trays_with(asking, deck, [mate_of(asking, card) for card in deck] if mates_by(asking) else [])


def trays_left(asking, deck):
    """Trays of whose deck the middle leaves the cards that come to it, where it has another tray."""
    if asking.middle is not None and asking.middle[0] == "mates":
        return mated_trays(asking, deck)
    return trays_with(asking, deck, [])


def parted_by_picks(asking, plan):
    """Trays with a card that is picked by the asking alone, or by the plan alone; None where there are none."""
    picks = [step for step in passes_of(plan, asking.deck) if step[0] == "pick"]
    signs = wanted_signs(asking)
    deck = parting_of([("pick", column, signs[column]) for column in signs], picks)
    return None if deck is None else trays_left(asking, deck)


def refused_at(asking, plan):
    """Trays at which the plan's going of the middle is refused; None where there are none."""
    early = early_part(plan)
    if mates_by(asking):
        needed = columns_of(middle_fields(asking)[1])
        dealt = sense_of(passes_of(early, names_of(asking)[1]))[1]
        if not begins_with(dealt, needed):
            return trays_with(asking, [], crossed_deck({}, needed, dealt))
    needed = middle_columns(asking)
    dealt = sense_of(passes_of(early, asking.deck))[1]
    if not begins_with(dealt, needed):
        return trays_with(asking, crossed_deck(wanted_signs(asking), needed, dealt), [])
    return None


def other_first_at(asking, plan):
    """Trays of which another card of a part is left by `first` in the plan; None where there are none."""
    needed = middle_columns(asking)
    dealt = sense_of(passes_of(early_part(plan), asking.deck))[1]
    if not is_first(asking) or dealt == needed:
        return None
    # The middle isn't refused: so these cards are alike in its columns, and turned about by what is dealt besides.
    return trays_with(asking, crossed_deck(wanted_signs(asking), dealt, needed), [])


def other_order_at(asking, plan):
    """Trays of which the same cards are left in another order; None where there are none."""
    dealt = sense_of(passes_of(plan, asking.deck))[1]
    if is_first(asking):
        # Both orders are cut behind all of the middle's columns; so unlike ones part ahead of that,
        # by cards that are unlike in these columns, too, and both left.
        dealt = cut_behind(dealt, middle_columns(asking))
    deck = parting_of_orders(wanted_signs(asking), wanted_columns(asking), dealt)
    return None if deck is None else trays_left(asking, deck)


def parted_at(asking, plan):
    """Trays at which a plan of the told kinds parts from the asking, or None where there are none at all."""
    if not is_plan(asking, plan):
        raise NoPlan("the goings are no plan of the told kinds for the asking")
    # Each search supposes that those ahead of it have found nothing.
    trays = parted_by_picks(asking, plan)
    if trays is None:
        trays = refused_at(asking, plan)
    if trays is None:
        trays = other_first_at(asking, plan)
    if trays is None:
        trays = other_order_at(asking, plan)
    return trays


def lacking_at(asking, at):
    """Trays at which the asking's plan without the going of a number parts from the asking."""
    plan = plan_of(asking)
    going = plan[at]
    if is_pass(going):
        return parted_at(asking, plan[:at] + plan[at + 1:])
    signs = wanted_signs(asking)
    card = card_with(signs, ONE_MARK)
    if going[0] == "first":
        return trays_with(asking, [card, card_with(signs, OTHER_MARK)], [])
    if going[0] == "mate":
        # The middle would not leave this card.
        return trays_with(asking, [card], []) if going[5] == "mates" else mated_trays(asking, [card])
    # This card comes to the punches and the count; its blanks are no figures, as a punch would leave.
    return trays_left(asking, [card])
