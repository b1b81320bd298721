"""Papers of persons: what is one, and for each link between two the bar that keeps them apart ([27] to [29])."""

from whoiswho.errors import InvalidIndex
from whoiswho.people import fates_and_groups, need_known, need_web, people_in, piece_of
from whoiswho.plain import chains_from, homes_of, is_chain, is_name_group, is_rising, is_tuple_of
from whoiswho.plain import neighbours, pair_of, same_value, tied_lots


def pairs_within(links, homes):
    """The pairs of the links that lie within groups."""
    return [(one, other) for _, one, other in links if homes[one] == homes[other]]


def links_between(links, homes):
    """(link, pairs) for each link between two groups: the pairs of links within that go ahead of it."""
    found = []
    for at, link in enumerate(links):
        if homes[link[1]] != homes[link[2]]:
            found.append((link, pairs_within(links[:at], homes)))
    return found


def refusal_row(names, link, pairs, bars):
    """(link, bar, chain, chain), by pairs within that go ahead of a refused link."""
    beside = neighbours(names, pairs)
    firsts, seconds = chains_from(link[1], beside), chains_from(link[2], beside)
    both_ways = [(bar, bar[at], bar[1 - at]) for bar in bars for at in range(2)]
    # A refused link has such a bar: the groups of its ends were tied by joins ahead of it.
    bar, near, far = [way for way in both_ways if way[1] in firsts and way[2] in seconds][0]
    return (link, bar, firsts[near], seconds[far])


def paper_of(names, links, bars):
    """As people_paper, of a web that is known to be right, its links in order."""
    people = people_in(fates_and_groups(names, links, bars)[1])
    ascending = sorted(bars)
    between = links_between(links, homes_of(people))
    return people, tuple([refusal_row(names, link, pairs, ascending) for link, pairs in between])


def people_paper(names, links, bars):
    """(persons, rows): for each link between two persons (link, bar, chain, chain)."""
    known, ordered, told = need_web(names, links, bars)
    return paper_of(known, ordered, told)


def is_partition(names, value):
    """Whether any value is a partition of the names in the form of persons."""
    if not isinstance(value, tuple) or not all([is_name_group(group) for group in value]):
        return False
    return is_rising(value) and sorted([name for group in value for name in group]) == list(names)


def is_refusal(value, link, pairs, bars):
    """Whether any value is (link, bar, chain, chain) of a link, the chains along these pairs."""
    if not is_tuple_of(value, 4) or not same_value(value[0], link):
        return False
    _, bar, first, second = value
    if not any([same_value(bar, known) for known in bars]) or not is_chain(first, pairs) or not is_chain(second, pairs):
        return False
    return first[0] == link[1] and second[0] == link[2] and pair_of(first[-1], second[-1]) == bar


def paper_holds(names, links, bars, value):
    """As people_hold, of a web that is known to be right, its links in order."""
    if not is_tuple_of(value, 2) or not is_partition(names, value[0]):
        return False
    people, rows = value
    homes = homes_of(people)
    if tied_lots(names, pairs_within(links, homes)) != people:
        return False
    if any([homes[one] == homes[other] for one, other in bars]):
        return False
    between = links_between(links, homes)
    if not is_tuple_of(rows, len(between)):
        return False
    return all([is_refusal(rows[at], link, pairs, bars) for at, (link, pairs) in enumerate(between)])


def people_hold(names, links, bars, value):
    """Whether any value is the persons and such rows, looked at by the three signs."""
    known, ordered, told = need_web(names, links, bars)
    return paper_holds(known, ordered, told, value)


def need_two(names, one, other):
    """Two unlike names of these."""
    first, second = need_known(names, one, 0), need_known(names, other, 1)
    if first == second:
        raise InvalidIndex(1)
    return first, second


def piece_web(names, links, bars, name):
    """(names, links, bars) of the piece of a name alone."""
    piece = piece_of(names, links, name)
    along = tuple([link for link in links if link[1] in piece])
    return piece, along, tuple([bar for bar in bars if bar[0] in piece and bar[1] in piece])


def pair_paper(names, links, bars, one, other):
    """("pieces", lot), ("one", paper, chain) or ("apart", paper): whether two names are one person."""
    known, ordered, told = need_web(names, links, bars)
    first, second = need_two(known, one, other)
    piece, along, within = piece_web(known, ordered, told, first)
    if second not in piece:
        return ("pieces", piece)
    paper = paper_of(piece, along, within)
    chains = chains_from(first, neighbours(piece, pairs_within(along, homes_of(paper[0]))))
    if second in chains:
        return ("one", paper, chains[second])
    return ("apart", paper)


def is_left_lot(names, links, value, first, second):
    """Whether any value is a lot of names that no link leaves, with the first and without the second."""
    if not is_name_group(value) or not all([name in names for name in value]):
        return False
    if first not in value or second in value:
        return False
    return all([(one in value) == (other in value) for _, one, other in links])


def pair_holds(names, links, bars, one, other, value):
    """Whether any value tells rightly whether two names are one person, any such lot, paper, chain."""
    known, ordered, told = need_web(names, links, bars)
    first, second = need_two(known, one, other)
    if is_tuple_of(value, 2) and value[0] == "pieces":
        return is_left_lot(known, ordered, value[1], first, second)
    piece, along, within = piece_web(known, ordered, told, first)
    if second not in piece or not isinstance(value, tuple) or len(value) < 2:
        return False
    if not paper_holds(piece, along, within, value[1]):
        return False
    homes = homes_of(value[1][0])
    if len(value) == 2:
        return value[0] == "apart" and homes[first] != homes[second]
    if len(value) != 3 or value[0] != "one" or not is_chain(value[2], pairs_within(along, homes)):
        return False
    return value[2][0] == first and value[2][-1] == second
