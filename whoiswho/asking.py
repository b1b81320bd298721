"""How often it must be asked, pair by pair, whether two are one ([52])."""

from whoiswho.errors import InvalidPeople, InvalidSize
from whoiswho.measures import is_parts
from whoiswho.people import is_barred, join_groups, need_bars
from whoiswho.plain import homes_of, is_number


def need_asking(parts, pairs):
    """The pairs as tuples, of right parts."""
    if not is_parts(parts):
        raise InvalidPeople(-1)
    return need_bars(sorted(homes_of(parts)), pairs)


def asked_of(parts, pairs):
    """As asked_pairs, of parts and pairs that are known to be right."""
    homes = homes_of(parts)
    groups = {name: [name] for name in homes}
    two = {name: [] for name in homes}
    asked = []
    for one, other in pairs:
        if other not in groups[one] and not is_barred(groups[one], groups[other], two):
            asked.append((one, other))
        if homes[one] != homes[other]:
            two[one].append(other)
            two[other].append(one)
        elif other not in groups[one]:
            join_groups(groups, one, other)
    return tuple(asked)


def asked_pairs(parts, pairs):
    """In order, the pairs whose answer doesn't follow from those ahead."""
    return asked_of(parts, need_asking(parts, pairs))


def one_and_two(parts, pairs):
    """(pairs that are one, pairs that are two), each in order."""
    homes = homes_of(parts)
    ones = [(one, other) for one, other in pairs if homes[one] == homes[other]]
    return ones, [(one, other) for one, other in pairs if homes[one] != homes[other]]


def bounds_of(parts, pairs):
    """As asked_bounds, of parts and pairs that are known to be right."""
    ones, twos = one_and_two(parts, pairs)
    return len(asked_of(parts, ones + twos)), len(asked_of(parts, twos + ones))


def asked_bounds(parts, pairs):
    """(least, most): how many pairs are asked, by the order."""
    return bounds_of(parts, need_asking(parts, pairs))


def order_asking(parts, pairs, many):
    """Some order of the pairs in which just so many are asked."""
    known = need_asking(parts, pairs)
    least, most = bounds_of(parts, known)
    if not is_number(many) or not least <= many <= most:
        raise InvalidSize("many")
    ones, twos = one_and_two(parts, known)
    order = ones + twos
    # Two neighbours exchanged change the number by one at most, so on the way it comes by each number.
    for ahead in range(len(twos)):
        for place in range(len(ones) + ahead, ahead, -1):
            if len(asked_of(parts, order)) == many:
                return tuple(order)
            order = order[:place - 1] + [order[place], order[place - 1]] + order[place + 1:]
    return tuple(order)
