"""What was chosen of each lot: by one order, or not ([49])."""

from whoiswho.errors import InvalidChoices, InvalidSize
from whoiswho.plain import is_below, is_number_lot, is_row_of, is_sequence, is_tuple_of, is_whole

MOST_THINGS = 6


def need_many(many):
    if not is_whole(many) or many < 1 or many > MOST_THINGS:
        raise InvalidSize("many")


def lot_size(lot):
    """What brings lots of fewer numbers first, then the lesser ones."""
    return len(lot), lot


def all_lots(many):
    """All lots of numbers below many, none empty: fewer numbers first, then ascending."""
    lots = [()]
    for number in range(many):
        lots = lots + [lot + (number,) for lot in lots]
    return sorted([lot for lot in lots if len(lot) > 0], key=lot_size)


def is_choice(value, many):
    """Whether a value is a pair of a lot and a number of it; a lot may be a list here."""
    if not is_row_of(value, 2) or not is_sequence(value[0]):
        return False
    lot = tuple(value[0])
    return is_number_lot(lot, many) and is_below(value[1], many) and value[1] in lot


def need_choices(many, choices):
    """The number chosen of each lot."""
    need_many(many)
    if not is_sequence(choices):
        raise InvalidChoices(-1)
    chosen = {}
    for at, pair in enumerate(choices):
        if not is_choice(pair, many) or tuple(pair[0]) in chosen:
            raise InvalidChoices(at)
        chosen[tuple(pair[0])] = pair[1]
    if len(chosen) < len(all_lots(many)):
        raise InvalidChoices(len(choices))
    return chosen


def is_split(chosen, one, other):
    """Whether the choice of two lots' choices is not the choice of both lots together."""
    both = tuple(sorted(set(one + other)))
    choices = tuple(sorted({chosen[one], chosen[other]}))
    return chosen[choices] != chosen[both]


def first_split(many, chosen):
    """The first two lots that are a split, or None."""
    lots = all_lots(many)
    for one in lots:
        for other in lots:
            if is_split(chosen, one, other):
                return one, other
    return None


def chosen_order(many, chosen):
    """All numbers, each next one chosen of those that are left."""
    left = tuple(range(many))
    row = []
    while len(left) > 0:
        foremost = chosen[left]
        row.append(foremost)
        left = tuple([number for number in left if number != foremost])
    return tuple(row)


def choice_paper(many, choices):
    """("order", row) by which all was chosen, or ("split", one, other), the first such lots."""
    chosen = need_choices(many, choices)
    split = first_split(many, chosen)
    if split is None:
        return ("order", chosen_order(many, chosen))
    return ("split", split[0], split[1])


def foremost_in(row, lot):
    """The number of a lot that is foremost in a row of all numbers."""
    return row[min([row.index(number) for number in lot])]


def order_holds(many, chosen, row):
    """Whether any value is a row by which all was chosen."""
    if not is_tuple_of(row, many) or not all([is_below(number, many) for number in row]):
        return False
    if sorted(row) != list(range(many)):
        return False
    return all([chosen[lot] == foremost_in(row, lot) for lot in chosen])


def choice_holds(many, choices, value):
    """Whether any value is the row by which all was chosen, or any two lots that are a split."""
    chosen = need_choices(many, choices)
    if is_tuple_of(value, 2) and value[0] == "order":
        return order_holds(many, chosen, value[1])
    if is_tuple_of(value, 3) and value[0] == "split":
        if not is_number_lot(value[1], many) or not is_number_lot(value[2], many):
            return False
        return is_split(chosen, value[1], value[2])
    return False
