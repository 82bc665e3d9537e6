"""The plan of an asking, and the plans of the told kinds."""

from cardshop.askings import break_fields, mates_by, middle_fields, names_of, pick_passes
from cardshop.cards import BODY_WIDTH
from cardshop.fields import columns_of
from cardshop.passes import picked_signs


def wanted_signs(asking):
    """The picked columns of an asking with their signs (P of the document)."""
    return picked_signs(pick_passes(asking))


def free_columns(asking, fields):
    """The columns of fields, each at its first coming, without the picked ones."""
    signs = wanted_signs(asking)
    columns = []
    for field in fields:
        for column in columns_of(field):
            if column not in signs and column not in columns:
                columns.append(column)
    return columns


def middle_columns(asking):
    """The columns that the middle wants the deck in order by (F)."""
    return free_columns(asking, middle_fields(asking)[:1])


def is_first(asking):
    """Whether an asking's middle is `first`."""
    return asking.middle is not None and asking.middle[0] == "first"


def cut_behind(columns, needed):
    """Columns up to the first place up to which they have all the needed ones."""
    length = 0
    while not all([column in columns[:length] for column in needed]):
        length = length + 1
    return columns[:length]


def wanted_columns(asking):
    """The columns by which the deck is in order at the end (Z)."""
    columns = free_columns(asking, asking.order + middle_fields(asking)[:1])
    # Of each part in the middle's columns one card is left: what stands behind these parts none of them.
    return cut_behind(columns, middle_columns(asking)) if is_first(asking) else columns


def late_length(asking):
    """How many of the wanted columns are dealt behind the middle (j)."""
    middle = middle_columns(asking)
    wanted = wanted_columns(asking)
    length = 0
    while not is_late_length(middle, wanted, length, is_first(asking)):
        length = length + 1
    return length


def is_late_length(middle, wanted, length, first):
    """Whether the other columns of the middle are the next ones of the wanted, or, by `first`, all the others."""
    left = [column for column in middle if column not in wanted[:length]]
    behind = wanted[length:]
    return left == (behind if first else behind[:len(left)])


def early_columns(asking):
    """The columns that are dealt ahead of the middle, in their order from the first to the last one (L)."""
    middle = middle_columns(asking)
    behind = wanted_columns(asking)[late_length(asking):]
    return middle + [column for column in behind if column not in middle]


def deals_of(name, columns):
    """The deals of a tray that put its deck in order by columns."""
    return [("deal", name, column) for column in reversed(columns)]


def other_deals(asking):
    """The deals of the middle's other tray, if it has one."""
    if not mates_by(asking):
        return []
    return deals_of(names_of(asking)[1], columns_of(middle_fields(asking)[1]))


def middle_goings(asking):
    """The going of the middle, or none where there is no middle."""
    if asking.middle is None:
        return []
    fields = middle_fields(asking)
    if is_first(asking):
        return [("first", asking.deck, fields[0])]
    return [("mate", asking.deck, asking.middle[1], fields[0], fields[1], asking.middle[0])]


def last_goings(asking):
    """The punches and the count."""
    goings = [("punch", asking.deck, work) for work in asking.works]
    goings.append(("count", asking.deck, break_fields(asking), list(asking.sums), asking.figures, list(asking.board)))
    return goings


def plan_of(asking):
    """The plan of an asking."""
    signs = wanted_signs(asking)
    plan = [("pick", asking.deck, column, signs[column]) for column in sorted(signs)]
    plan.extend(deals_of(asking.deck, early_columns(asking)))
    plan.extend(other_deals(asking))
    plan.extend(middle_goings(asking))
    plan.extend(deals_of(asking.deck, wanted_columns(asking)[:late_length(asking)]))
    plan.extend(last_goings(asking))
    return plan


def is_pass(going):
    """Whether a going is a deal or a pick."""
    return going[0] in ("deal", "pick")


def is_plan(asking, plan):
    """Whether a list of goings is a plan of the told kinds for an asking."""
    if [going for going in plan if not is_pass(going)] != middle_goings(asking) + last_goings(asking):
        return False
    # Goings that are no passes, and stand ahead.
    ahead = 0
    for going in plan:
        if not is_pass(going):
            ahead = ahead + 1
        elif not is_told_pass(asking, going, ahead):
            return False
    return True


def is_told_pass(asking, going, ahead):
    """Whether a deal or pick may stand behind so many goings of other kinds."""
    if not 1 <= going[2] <= BODY_WIDTH:
        return False
    if going[0] == "deal" and going[1] == asking.deck:
        return ahead <= len(middle_goings(asking))
    # Picks, and deals of the other tray, stand ahead of the middle.
    names = names_of(asking)[1:] if going[0] == "deal" else [asking.deck]
    return going[1] in names and ahead == 0
