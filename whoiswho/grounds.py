"""Which fields are enough for what a rule says of a row, and which are needful ([16])."""

from whoiswho.choices import all_lots, lot_size
from whoiswho.rules import need_verdicts, verdicts_of, word_of


def all_rows(rule):
    """All rows of possible verdicts of a rule's fields."""
    rows = [()]
    for field in rule[0]:
        rows = [row + (verdict,) for row in rows for verdict in verdicts_of(field)]
    return rows


def has_part(lot, lots):
    """Whether one of some lots is the lot or a part of it."""
    return any([all([place in lot for place in part]) for part in lots])


def least_lots(lots):
    """Of lots, lesser ones first, those of which no lesser part is one."""
    least = []
    for lot in lots:
        if not has_part(lot, least):
            least.append(lot)
    return tuple(least)


def turning_lots(rule, row):
    """The least lots of places whose verdicts can turn a link to none, or none to a link."""
    is_link = word_of(rule, row) == "link"
    unlike = [other for other in all_rows(rule) if (word_of(rule, other) == "link") != is_link]
    lots = {tuple([at for at, verdict in enumerate(other) if verdict != row[at]]): True for other in unlike}
    return least_lots(sorted(lots, key=lot_size))


def enough_lots(rule, row):
    """All least lots of places that are enough for a row to stay a link, or to stay none."""
    need_verdicts(rule, row)
    turning = turning_lots(rule, row)
    lots = [()] + all_lots(len(row))
    return least_lots([lot for lot in lots if not has_part([at for at in range(len(row)) if at not in lot], turning)])


def needful_lots(rule, row):
    """All least lots of places that are needful for a row to stay a link, or to stay none."""
    need_verdicts(rule, row)
    return turning_lots(rule, row)
