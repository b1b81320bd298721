"""The fewest sames to take back, and chains that show that no fewer will do ([38])."""

from whoiswho.best import groups_at, try_homes
from whoiswho.cuts import reached_things
from whoiswho.deeds import need_hands
from whoiswho.errors import Refused
from whoiswho.flows import flow_rows, rooms_both_ways, star_rows
from whoiswho.papers import pairs_within
from whoiswho.people import in_order, need_bars, need_names
from whoiswho.plain import homes_of, is_chain, is_name_group, is_name_tuple, is_rising, is_tuple_of, pair_of, same_value
from whoiswho.plain import tied_lots
from whoiswho.rings import pairs_of


def least_broken(names, sames, unlikes):
    """Parts of a few names, with the fewest words between of all without an unlike within."""
    places = {name: at for at, name in enumerate(names)}
    apart = {(places[one], places[other]): weight for weight, one, other in sames}
    within = {(places[one], places[other]): None for one, other in unlikes}
    best = [None, None]
    try_homes(len(names), (), 0, (apart, within), best)
    parts = tuple([tuple([names[place] for place in part]) for part in groups_at(best[1])])
    return tied_lots(names, pairs_within(sames, homes_of(parts)))


def broken_words(sames, parts):
    """How many words lie between parts."""
    homes = homes_of(parts)
    return sum([weight for weight, one, other in sames if homes[one] != homes[other]])


def fewest_back(names, sames, unlikes):
    """(many, parts): the fewest words for no ring, and parts with so many between."""
    known, told, barred = need_hands(names, sames, unlikes)
    parts = []
    # Unlikes between two pieces are kept anyway.
    for piece in tied_lots(known, pairs_of(told)):
        within = [same for same in told if same[1] in piece]
        parts.extend(least_broken(piece, within, [bar for bar in barred if bar[0] in piece and bar[1] in piece]))
    people = tuple(sorted(parts))
    return broken_words(told, people), people


def beside_name(unlikes, name):
    """Ascending, the names that have an unlike with a name."""
    return tuple(sorted([end for bar in unlikes for end in bar if name in bar and end != name]))


def are_all(unlikes, one, other):
    """Whether unlikes are just all pairs of two lots; so these have no name in common."""
    return sorted([pair_of(a, b) for a in one for b in other]) == sorted(unlikes)


def is_independent(unlikes, lot):
    """Whether no unlike is within a lot."""
    return not any([one in lot and other in lot for one, other in unlikes])


def has_between(unlikes, one, other):
    """Whether some unlike is between two lots."""
    return any([pair_of(a, b) in unlikes for a in one for b in other])


def are_web(unlikes, lots):
    """Whether lots have nothing common, no unlike within one, and one between each two."""
    for at, lot in enumerate(lots):
        for elder in lots[:at]:
            if any([name in elder for name in lot]) or not has_between(unlikes, lot, elder):
                return False
    return all([is_independent(unlikes, lot) for lot in lots])


def both_ways(bars):
    return [(one, other) for one, other in bars] + [(other, one) for one, other in bars]


def web_lots(unlikes):
    """Some three lots with an unlike between each two, none within one; there are some."""
    ways = both_ways(unlikes)
    for one, other in unlikes:
        # Each two lots have an unlike between, so each lot needs just the ends of two.
        for near, third in ways:
            for far, last in ways:
                lots = [tuple(sorted({one, near})), tuple(sorted({other, far})), tuple(sorted({third, last}))]
                if are_web(unlikes, lots):
                    return tuple(lots)
    return ()


def kind_of(unlikes):
    """As unlike_kind, of unlikes that are known to be right, ascending."""
    if len(unlikes) == 0:
        return ("all", (), ())
    least, other = unlikes[0]
    ones, others = beside_name(unlikes, other), beside_name(unlikes, least)
    if are_all(unlikes, ones, others):
        return ("all", ones, others)
    if len(unlikes) == 2:
        return ("two", unlikes[0], unlikes[1])
    return ("web",) + web_lots(unlikes)


def need_unlikes(names, unlikes):
    """(names, unlikes ascending), both as tuples."""
    known = need_names(names)
    return known, tuple(sorted(need_bars(known, unlikes)))


def unlike_kind(names, unlikes):
    """("all", lot, lot), ("two", bar, bar) or ("web", lot, lot, lot): what unlikes are together."""
    return kind_of(need_unlikes(names, unlikes)[1])


def are_lots(names, value):
    """Whether any value is lots of these names."""
    return all([is_name_group(lot) and all([name in names for name in lot]) for lot in value])


def kind_holds(names, unlikes, value):
    """Whether any value is what unlikes are together, lots and bars in any order."""
    known, told = need_unlikes(names, unlikes)
    if not isinstance(value, tuple) or len(value) < 3 or not isinstance(value[0], str):
        return False
    word, rest = value[0], value[1:]
    if len(told) == 0:
        return same_value(value, ("all", (), ()))
    if word == "all" and len(rest) == 2:
        return are_lots(known, rest) and are_all(told, rest[0], rest[1])
    if word == "two":
        return kind_of(told)[0] == "two" and (same_value(rest, told) or same_value(rest, told[::-1]))
    return word == "web" and len(rest) == 3 and are_lots(known, rest) and are_web(told, rest)


def rooms_of(sames):
    """The rooms along sames, both ways: how often each is said."""
    return rooms_both_ways({(one, other): weight for weight, one, other in sames})


def rooms_from(sames, starts):
    """The rooms along sames, and from a thing "start" to some names: (room, name) each."""
    rooms = rooms_of(sames)
    rooms["start"] = {name: room for room, name in starts}
    for _, name in starts:
        rooms.setdefault(name, {})["start"] = 0
    return rooms


def rows_between(sames, starts, ends):
    """(rows, pairs): a greatest flow (amount, way) between lots of names, and the sames of a least cut."""
    bound = sum([weight for weight, _, _ in sames]) + 1
    rooms = rooms_from(sames, [(bound, name) for name in starts])
    rows = star_rows("start", rooms, {name: bound for name in ends})
    reached = reached_things("start", rooms, rows)
    cut = [(one, other) for _, one, other in sames if (one in reached) != (other in reached)]
    return [(amount, way[1:]) for amount, way in rows], tuple(sorted(cut))


def total_of(rows):
    return sum([amount for amount, _ in rows])


def repeated(rows, times):
    """The ways of rows, each as often as its amount, so many times."""
    return tuple([way for amount, way in rows for _ in range(amount * times)])


def net_flow(rows):
    """How much rows go from a name to the next one, less what they go back."""
    flow = {}
    for amount, way in rows:
        for at in range(1, len(way)):
            one, other = way[at - 1], way[at]
            flow.setdefault(one, {})[other] = flow.setdefault(one, {}).get(other, 0) + amount
            flow.setdefault(other, {})[one] = flow.setdefault(other, {}).get(one, 0) - amount
    return flow


def added_flows(flow, other, sign):
    """A flow and another one, or less it by a sign."""
    total = {}
    for rows, times in ((flow, 1), (other, sign)):
        for one in rows:
            for end in rows[one]:
                total.setdefault(one, {})[end] = total.setdefault(one, {}).get(end, 0) + rows[one][end] * times
    return total


def two_flows(sames, bars, first, second):
    """Rows (amount, way) between two bars' ends, twice so much between each; no same takes more than twice its room."""
    (one, other), (near, far) = bars
    flows = []
    for start, end in ((near, far), (far, near)):
        rooms = rooms_from(sames, [(first, one), (second, start)])
        rows = star_rows("start", rooms, {other: first, end: second})
        flows.append(net_flow([(amount, way[1:]) for amount, way in rows]))
    # Together they go twice between the one bar's ends, taken from one another twice between the other's.
    rows = flow_rows(one, added_flows(flows[0], flows[1], 1), {other: 2 * first})
    return rows + flow_rows(near, added_flows(flows[0], flows[1], -1), {far: 2 * second})


def two_chains(sames, bars):
    """As fewest_chains, for two unlikes without a common name."""
    (one, other), (near, far) = bars
    straight, crossed = rows_between(sames, (one, near), (other, far)), rows_between(sames, (one, far), (other, near))
    rows, pairs = straight if total_of(straight[0]) <= total_of(crossed[0]) else crossed
    first = total_of(rows_between(sames, (one,), (other,))[0])
    return pairs, repeated(two_flows(sames, bars, first, total_of(rows) - first), 1)


def fewest_chains(names, sames, unlikes):
    """(pairs, chains): sames to take back, and chains that show that no fewer will do."""
    _, told, barred = need_hands(names, sames, unlikes)
    kind = kind_of(barred)
    if kind[0] == "web":
        raise Refused(-1)
    if kind[0] == "two":
        return two_chains(told, kind[1:])
    rows, pairs = rows_between(told, kind[1], kind[2])
    return pairs, repeated(rows, 2)


def is_chain_of_bar(value, pairs, unlikes):
    """Whether any value is a chain along pairs between both ends of an unlike."""
    return is_chain(value, pairs) and pair_of(value[0], value[-1]) in unlikes


def are_pairs_back(names, sames, unlikes, value):
    """Whether any value is an ascending tuple of pairs of sames without which there is no ring."""
    if not isinstance(value, tuple) or not all([is_tuple_of(pair, 2) for pair in value]):
        return False
    if not all([is_name_tuple(end) for pair in value for end in pair]) or not is_rising(value):
        return False
    pairs = pairs_of(sames)
    if not all([pair in pairs for pair in value]):
        return False
    homes = homes_of(tied_lots(names, [pair for pair in pairs if pair not in value]))
    return not any([homes[one] == homes[other] for one, other in unlikes])


def times_along(chains):
    """How often chains go along each pair."""
    often = {}
    for chain in chains:
        for at in range(1, len(chain)):
            pair = pair_of(chain[at - 1], chain[at])
            often[pair] = often.get(pair, 0) + 1
    return often


def chains_fit(sames, chains, times):
    """Whether each same is in no more of the chains than so many times its weight."""
    often = times_along(chains)
    return all([often.get((one, other), 0) <= times * weight for weight, one, other in sames])


def chains_hold(names, sames, unlikes, value):
    """Whether any value is sames to take back, and chains that show that no fewer will do."""
    known, told, barred = need_hands(names, sames, unlikes)
    if not is_tuple_of(value, 2) or not are_pairs_back(known, told, barred, value[0]):
        return False
    words = sum([weight for weight, one, other in told if (one, other) in value[0]])
    if not is_tuple_of(value[1], 2 * words):
        return False
    pairs = pairs_of(told)
    return all([is_chain_of_bar(chain, pairs, barred) for chain in value[1]]) and chains_fit(told, value[1], 2)


def gap_web(names, unlikes):
    """(names, sames): a web with a name more for which there are no such chains."""
    known, told = need_unlikes(names, unlikes)
    kind = kind_of(told)
    if kind[0] != "web":
        raise Refused(-1)
    further = (known[-1][0] + 1, 0)
    sames = [(1, lot[0], further) for lot in kind[1:]]
    for lot in kind[1:]:
        sames.extend([(2, lot[at - 1], lot[at]) for at in range(1, len(lot))])
    return known + (further,), in_order(sames)
