"""What every module needs: plain kinds of values, rising rows, what hangs together."""

from whoiswho.errors import InvalidValue


def is_whole(value):
    """Whether a value is an integer: True and False are none."""
    return isinstance(value, int) and not isinstance(value, bool)


def is_number(value):
    return is_whole(value) and value >= 0


def is_below(value, many):
    """Whether a value is a number below many."""
    return is_number(value) and value < many


def is_sequence(value):
    return isinstance(value, (list, tuple))


def is_row_of(value, many):
    """Whether a value is a list or tuple of so many things."""
    return isinstance(value, (list, tuple)) and len(value) == many


def is_tuple_of(value, many):
    return isinstance(value, tuple) and len(value) == many


def is_text(value):
    """Whether a value is a string of printable ASCII."""
    if not isinstance(value, str):
        return False
    return all([" " <= sign <= "~" for sign in value])


def is_sign(value):
    return is_text(value) and len(value) == 1


def is_name(value):
    """Whether a value is a pair of numbers, be it a list or a tuple."""
    return is_row_of(value, 2) and is_number(value[0]) and is_number(value[1])


def is_name_tuple(value):
    return isinstance(value, tuple) and is_name(value)


def is_rising(row):
    """Whether each thing of a row is greater than the one ahead."""
    return all([row[at - 1] < row[at] for at in range(1, len(row))])


def is_number_lot(value, many):
    """Whether a value is an ascending tuple of unlike numbers below many, one or more."""
    if not isinstance(value, tuple) or len(value) == 0:
        return False
    return all([is_below(number, many) for number in value]) and is_rising(value)


def is_name_group(value):
    """Whether a value is an ascending tuple of unlike names, one or more, tuples alone."""
    if not isinstance(value, tuple) or len(value) == 0:
        return False
    return all([is_name_tuple(name) for name in value]) and is_rising(value)


def in_tuples(value):
    """The value with tuples for lists at any depth."""
    if is_sequence(value):
        return tuple([in_tuples(thing) for thing in value])
    return value


def has_list(value):
    """Whether a value is a list or has one within, at any depth."""
    if isinstance(value, tuple):
        return any([has_list(thing) for thing in value])
    return isinstance(value, list)


def same_value(one, other):
    """Whether two values are equal, with no truth equal to an integer at any depth."""
    if isinstance(one, tuple) and isinstance(other, tuple):
        if len(one) != len(other):
            return False
        return all([same_value(thing, other[at]) for at, thing in enumerate(one)])
    return isinstance(one, bool) == isinstance(other, bool) and one == other


def need_texts(one, other):
    """Raises the error of the first that is no string of signs."""
    need_text(one)
    if not is_text(other):
        raise InvalidValue(1)


def need_text(text):
    if not is_text(text):
        raise InvalidValue(0)


def pair_of(one, other):
    return min(one, other), max(one, other)


def homes_of(people):
    """For each thing of groups the place of its group."""
    return {thing: at for at, group in enumerate(people) for thing in group}


def neighbours(things, pairs):
    """For each thing those that it has a pair with."""
    beside = {thing: [] for thing in things}
    for one, other in pairs:
        beside[one].append(other)
        beside[other].append(one)
    return beside


def chains_from(start, beside):
    """For each thing that neighbours tie to this one a shortest chain from this one to it."""
    chains = {start: (start,)}
    met = [start]
    at = 0
    while at < len(met):
        here = met[at]
        at += 1
        for thing in beside[here]:
            if thing not in chains:
                chains[thing] = chains[here] + (thing,)
                met.append(thing)
    return chains


def is_chain(value, pairs):
    """Whether any value is unlike names, one or more, each two next ones one of the pairs."""
    if not isinstance(value, tuple) or len(value) == 0 or not all([is_name_tuple(name) for name in value]):
        return False
    if len(sorted({name for name in value})) < len(value):
        return False
    return all([pair_of(value[at - 1], value[at]) in pairs for at in range(1, len(value))])


def tied_lots(things, pairs):
    """Ascending, the lots that hang together by pairs; each thing of no pair is one alone."""
    lots = {thing: [thing] for thing in things}
    for one, other in pairs:
        kept, lost = lots[one], lots[other]
        if kept != lost:
            kept.extend(lost)
            for thing in lost:
                lots[thing] = kept
    return tuple(sorted([tuple(sorted(lots[thing])) for thing in lots if thing == lots[thing][0]]))
