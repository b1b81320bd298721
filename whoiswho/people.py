"""Links by falling weight, bars that keep groups apart, and the people they tell ([24] to [26])."""

from whoiswho.errors import InvalidBars, InvalidIndex, InvalidLinks, InvalidPeople, InvalidSize
from whoiswho.plain import is_name, is_row_of, is_sequence, is_whole, neighbours, tied_lots

MOST_PARTED = 7


def need_names(names):
    """The names as a tuple of tuples: ascending, unlike."""
    if not is_sequence(names):
        raise InvalidPeople(-1)
    told = []
    for at, name in enumerate(names):
        if not is_name(name) or (at > 0 and not told[at - 1] < tuple(name)):
            raise InvalidPeople(at)
        told.append(tuple(name))
    return tuple(told)


def pair_among(known, one, other):
    """The pair of two of the names that are known, the lesser first, or None if it is none."""
    if not is_name(one) or not is_name(other):
        return None
    pair = (tuple(one), tuple(other))
    if pair[0] not in known or pair[1] not in known or not pair[0] < pair[1]:
        return None
    return pair


def need_links(names, links):
    """The links as tuples, in the order in which they were passed; the names are right."""
    return links_above(names, links, None)


def links_above(names, links, floor):
    """As need_links, but no weight may be at this floor or below it."""
    if not is_sequence(links):
        raise InvalidLinks(-1)
    known = {name: True for name in names}
    told, seen = [], {}
    for at, link in enumerate(links):
        if not is_row_of(link, 3) or not is_whole(link[0]) or (floor is not None and link[0] <= floor):
            raise InvalidLinks(at)
        pair = pair_among(known, link[1], link[2])
        if pair is None or pair in seen:
            raise InvalidLinks(at)
        seen[pair] = True
        told.append((link[0], pair[0], pair[1]))
    return tuple(told)


def need_bars(names, bars):
    """The bars as tuples, in the order in which they were passed; the names are right."""
    if not is_sequence(bars):
        raise InvalidBars(-1)
    known = {name: True for name in names}
    told, seen = [], {}
    for at, bar in enumerate(bars):
        pair = pair_among(known, bar[0], bar[1]) if is_row_of(bar, 2) else None
        if pair is None or pair in seen:
            raise InvalidBars(at)
        seen[pair] = True
        told.append(pair)
    return tuple(told)


def need_web(names, links, bars):
    """(names, links in order, bars), all as tuples."""
    known = need_names(names)
    ordered = in_order(need_links(known, links))
    return known, ordered, need_bars(known, bars)


def in_order(links):
    """Links by greater weight, then by lesser pair."""
    return tuple(sorted(links, key=lambda link: (-link[0], link[1], link[2])))


def link_order(names, links):
    """The links in the order in which they go ahead of one another."""
    return in_order(need_links(need_names(names), links))


def is_barred(group, other, beside):
    """Whether a bar lies between two groups, lists of names."""
    lesser, greater = (group, other) if len(group) < len(other) else (other, group)
    return any([barred in greater for name in lesser for barred in beside[name]])


def join_groups(groups, one, other):
    """Makes the groups of two names one; groups has for each name the list of its group."""
    group = groups[one] + groups[other]
    for name in group:
        groups[name] = group


def next_fate(groups, beside, link):
    """The fate of a link behind these groups; a join makes its ends' groups one."""
    _, one, other = link
    if other in groups[one]:
        return "in"
    if is_barred(groups[one], groups[other], beside):
        return "no"
    join_groups(groups, one, other)
    return "join"


def fates_and_groups(names, links, bars):
    """(fates, groups), of links in order; groups has for each name the list of its group."""
    groups = {name: [name] for name in names}
    beside = neighbours(names, bars)
    fates = tuple([next_fate(groups, beside, link) for link in links])
    return fates, groups


def people_in(groups):
    """The groups that names have, in the form of persons."""
    return tuple(sorted([tuple(sorted(groups[name])) for name in groups if name == min(groups[name])]))


def link_fates(names, links, bars):
    """For each link, in order: "in", "no" or "join"."""
    known, ordered, told = need_web(names, links, bars)
    return fates_and_groups(known, ordered, told)[0]


def rule_people(names, links, bars):
    """The persons: the groups behind all links."""
    known, ordered, told = need_web(names, links, bars)
    return people_in(fates_and_groups(known, ordered, told)[1])


def link_pieces(names, links):
    """What links tie together, whatever bars there are."""
    known = need_names(names)
    return tied_lots(known, [(one, other) for _, one, other in need_links(known, links)])


def piece_of(names, links, name):
    """The names that links tie to this one, itself too."""
    lots = tied_lots(names, [(one, other) for _, one, other in links])
    return [lot for lot in lots if name in lot][0]


def need_known(names, name, place):
    """The name as a tuple, if it is one of the names."""
    if not is_name(name) or tuple(name) not in names:
        raise InvalidIndex(place)
    return tuple(name)


def first_join(names, joins, one, other):
    """Of joins, in order, the one behind which two names are first in one group, or None."""
    groups = {name: [name] for name in names}
    for link in joins:
        join_groups(groups, link[1], link[2])
        if other in groups[one]:
            return link
    return None


def first_weight(names, links, bars, one, other):
    """The weight of the join behind which two names are first in one group, or None."""
    known, ordered, told = need_web(names, links, bars)
    first, second = need_known(known, one, 0), need_known(known, other, 1)
    if first == second:
        return None
    fates, _ = fates_and_groups(known, ordered, told)
    link = first_join(known, [ordered[at] for at, fate in enumerate(fates) if fate == "join"], first, second)
    return None if link is None else link[0]


def people_above(names, links, bars, least):
    """The persons by the links of at least this weight alone."""
    known, ordered, told = need_web(names, links, bars)
    if not is_whole(least):
        raise InvalidSize("least")
    heavy = [link for link in ordered if link[0] >= least]
    return people_in(fates_and_groups(known, heavy, told)[1])


def all_partitions(names):
    """All partitions of the names, as lists of lists; the names in each list ascend."""
    partitions = [[]]
    for name in names:
        longer = []
        for parts in partitions:
            longer.append(parts + [[name]])
            for at, part in enumerate(parts):
                longer.append(parts[:at] + [part + [name]] + parts[at + 1:])
        partitions = longer
    return partitions


def kept_row(homes, links):
    """For each link 1 if it lies within a part, else 0."""
    return tuple([1 if homes[one] == homes[other] else 0 for _, one, other in links])


def best_partition(names, links, bars):
    """Of all partitions without a bar within a part that of the greatest row of links kept."""
    known, ordered, told = need_web(names, links, bars)
    if len(known) > MOST_PARTED:
        raise InvalidSize("names")
    best = None
    for parts in all_partitions(known):
        homes = {name: at for at, part in enumerate(parts) for name in part}
        if any([homes[one] == homes[other] for one, other in told]):
            continue
        worth = (kept_row(homes, ordered), len(parts))
        if best is None or worth > best[0]:
            best = (worth, parts)
    return tuple(sorted([tuple(part) for part in best[1]]))
