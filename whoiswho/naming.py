"""Numbers that groups of records keep from day to day ([44] to [46])."""

from whoiswho.errors import InvalidIndex, InvalidNames, InvalidPeople, InvalidSize
from whoiswho.plain import is_name_group, is_number, is_rising, is_sequence, is_tuple_of


def are_groups(value):
    """Whether any value is an ascending tuple of groups, no record in two."""
    if not isinstance(value, tuple) or not all([is_name_group(group) for group in value]):
        return False
    records = sorted([record for group in value for record in group])
    return is_rising(value) and is_rising(records)


def need_groups(people):
    if not are_groups(people):
        raise InvalidPeople(-1)


def is_row(value):
    return is_tuple_of(value, 2) and is_number(value[0]) and is_name_group(value[1])


def need_rows(named):
    """Raises the error of what is no rows (number, group)."""
    if not isinstance(named, tuple):
        raise InvalidNames(-1)
    seen = {}
    for at, row in enumerate(named):
        if not is_row(row) or (at > 0 and not named[at - 1][0] < row[0]):
            raise InvalidNames(at)
        if any([record in seen for record in row[1]]):
            raise InvalidNames(at)
        for record in row[1]:
            seen[record] = True


def need_fresh(named, fresh):
    if not is_number(fresh) or any([row[0] >= fresh for row in named]):
        raise InvalidSize("fresh")


def shares_of(named, people):
    """How many records each row and each group (row's place, group's place) share, if any."""
    homes = {record: at for at, group in enumerate(people) for record in group}
    shares = {}
    for at, row in enumerate(named):
        for record in row[1]:
            if record in homes:
                pair = (at, homes[record])
                shares[pair] = shares.get(pair, 0) + 1
    return shares


def best_rise(shares, row_of):
    """(rise, row, group, ahead): how another pair dealt, and others dealt anew, share most more.

    row_of has the row of each dealt group; ahead has for a row the row from which it was reached.
    """
    group_of = {row_of[group]: group for group in row_of}
    rises = {row: 0 for row, _ in shares if row not in group_of}
    ahead = {}
    best = (0, None, None)
    changed = True
    while changed:
        changed = False
        for row, group in shares:
            if row not in rises or row_of.get(group, -1) == row:
                continue
            rise = rises[row] + shares[(row, group)]
            if group not in row_of:
                best = (rise, row, group) if rise > best[0] else best
                continue
            loser = row_of[group]
            rise -= shares[(loser, group)]
            if loser not in rises or rise > rises[loser]:
                rises[loser] = rise
                ahead[loser] = row
                changed = True
    return best[0], best[1], best[2], ahead


def best_dealing(shares):
    """For each dealt group its row, such that dealt ones share the most."""
    row_of = {}
    rise, row, group, ahead = best_rise(shares, row_of)
    while rise > 0:
        group_of = {row_of[dealt]: dealt for dealt in row_of}
        row_of[group] = row
        # Each row on the way loses its group to the row from which it was reached.
        while row in group_of:
            row_of[group_of[row]] = ahead[row]
            row = ahead[row]
        rise, row, group, ahead = best_rise(shares, row_of)
    return row_of


def most_shared(shares):
    """How many records dealt rows and groups share at most."""
    row_of = best_dealing(shares)
    return sum([shares[(row_of[group], group)] for group in row_of])


def without_row(shares, row):
    return {pair: shares[pair] for pair in shares if pair[0] != row}


def without_group(shares, group):
    return {pair: shares[pair] for pair in shares if pair[1] != group}


def first_row(shares, group, most):
    """The least row that a group is dealt in some best dealing, or None if there is none."""
    for row in sorted([pair[0] for pair in shares if pair[1] == group]):
        rest = without_row(without_group(shares, group), row)
        if shares[(row, group)] + most_shared(rest) == most:
            return row
    return None


def first_dealing(shares, many):
    """For each of so many groups its row, None for a fresh number, in the first best dealing."""
    left = shares
    dealing = []
    for group in range(many):
        row = first_row(left, group, most_shared(left))
        left = without_group(left, group)
        if row is not None:
            left = without_row(left, row)
        dealing.append(row)
    return dealing


def dealt_rows(named, people, fresh):
    """As named_people, of rows and groups that are known to be right."""
    rows = []
    number = fresh
    for at, row in enumerate(first_dealing(shares_of(named, people), len(people))):
        if row is None:
            rows.append((number, people[at]))
            number += 1
        else:
            rows.append((named[row][0], people[at]))
    return tuple(sorted(rows))


def need_dealing(named, people, fresh):
    need_rows(named)
    need_groups(people)
    need_fresh(named, fresh)


def named_people(named, people, fresh):
    """The rows of the groups: the fewest records change, the first groups get the least numbers."""
    need_dealing(named, people, fresh)
    return dealt_rows(named, people, fresh)


def numbers_of(named):
    """For each record the number that it bears."""
    return {record: number for number, group in named for record in group}


def changes_of(named, later):
    elder, newer = numbers_of(named), numbers_of(later)
    return tuple([record for record in sorted(elder) if record in newer and elder[record] != newer[record]])


def changed_records(named, later):
    """Ascending, the records that stand in both rows, with unlike numbers."""
    need_rows(named)
    need_rows(later)
    return changes_of(named, later)


def prices_of(shares, rows, groups):
    """(elder, later): prices of so many rows and groups that show what can be shared at most."""
    most = most_shared(shares)
    elder = [most - most_shared(without_row(shares, row)) for row in range(rows)]
    later = []
    for group in range(groups):
        later.append(max([0] + [shares[pair] - elder[pair[0]] for pair in shares if pair[1] == group]))
    return tuple(elder), tuple(later)


def names_paper(named, people, fresh):
    """(rows, changed, elder, later): as named_people, how many change, and prices that show it."""
    need_dealing(named, people, fresh)
    rows = dealt_rows(named, people, fresh)
    elder, later = prices_of(shares_of(named, people), len(named), len(people))
    return rows, len(changes_of(named, rows)), elder, later


def is_dealing(named, people, fresh, value):
    """Whether any value is rows of the groups, each dealt a row's number or, in order, a fresh one."""
    if not isinstance(value, tuple) or not all([is_row(row) for row in value]):
        return False
    if not is_rising([row[0] for row in value]) or tuple(sorted([row[1] for row in value])) != people:
        return False
    elder = {number: group for number, group in named}
    given = {group: number for number, group in value}
    number = fresh
    for group in people:
        if given[group] in elder:
            if not any([record in group for record in elder[given[group]]]):
                return False
        elif given[group] != number:
            return False
        else:
            number += 1
    return True


def are_prices(value, many):
    return is_tuple_of(value, many) and all([is_number(price) for price in value])


def names_hold(named, people, fresh, value):
    """Whether any value is such a paper: any dealing in which the fewest change, any prices."""
    need_dealing(named, people, fresh)
    if not is_tuple_of(value, 4) or not is_dealing(named, people, fresh, value[0]):
        return False
    rows, changed, elder, later = value
    if not is_number(changed) or changed != len(changes_of(named, rows)):
        return False
    if not are_prices(elder, len(named)) or not are_prices(later, len(people)):
        return False
    shares = shares_of(named, people)
    if not all([elder[pair[0]] + later[pair[1]] >= shares[pair] for pair in shares]):
        return False
    # All shared records either change or are shared by a dealt pair.
    return sum(elder) + sum(later) == sum([shares[pair] for pair in shares]) - changed


def sure_names(named, people):
    """Ascending, (number, group) dealt so in all dealings in which the fewest change."""
    need_rows(named)
    need_groups(people)
    shares = shares_of(named, people)
    most = most_shared(shares)
    sure = []
    for pair in sorted(shares):
        if most_shared({other: shares[other] for other in shares if other != pair}) < most:
            sure.append((named[pair[0]][0], people[pair[1]]))
    return tuple(sure)


def named_days(days):
    """For each day the rows of its groups, each from those of the day ahead."""
    if not is_sequence(days):
        raise InvalidPeople(-1)
    for people in days:
        need_groups(people)
    told, rows = [], ()
    fresh = 0
    for people in days:
        rows = dealt_rows(rows, people, fresh)
        fresh = max([fresh] + [row[0] + 1 for row in rows])
        told.append(rows)
    return tuple(told)


def days_of(days, number):
    """(day, group) for each day with a number."""
    told = named_days(days)
    if not is_number(number):
        raise InvalidIndex(-1)
    found = [(day, row[1]) for day, rows in enumerate(told) for row in rows if row[0] == number]
    if len(found) == 0:
        raise InvalidIndex(-1)
    return tuple(found)
