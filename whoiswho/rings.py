"""Rings of hands' words, and what may be taken back so that none is left ([35] to [37])."""

from whoiswho.deeds import need_hands
from whoiswho.errors import InvalidIndex, InvalidPeople, Refused
from whoiswho.flows import star_rows
from whoiswho.papers import is_partition
from whoiswho.people import pair_among
from whoiswho.plain import chains_from, homes_of, is_chain, is_name_tuple, is_tuple_of, neighbours, pair_of, same_value
from whoiswho.plain import tied_lots


def pairs_of(sames):
    return [(one, other) for _, one, other in sames]


def is_within(pair, homes):
    return homes[pair[0]] == homes[pair[1]]


def shortest_ring(names, pairs, unlikes):
    """(bar, chain) with a shortest chain by pairs of all, or None."""
    beside = neighbours(names, pairs)
    best = None
    for bar in unlikes:
        chain = chains_from(bar[0], beside).get(bar[1], None)
        if chain is not None and (best is None or len(chain) < len(best[1])):
            best = (bar, chain)
    return best


def hands_paper(names, sames, unlikes):
    """("kept", parts) that break no word, or ("ring", bar, chain) of fewest names."""
    known, told, barred = need_hands(names, sames, unlikes)
    ring = shortest_ring(known, pairs_of(told), barred)
    if ring is None:
        return ("kept", tied_lots(known, pairs_of(told)))
    return ("ring", ring[0], ring[1])


def is_ring(pairs, unlikes, bar, chain):
    """Whether any values are an unlike, and a chain along pairs from its first to its second name."""
    if not any([same_value(bar, unlike) for unlike in unlikes]):
        return False
    return is_chain(chain, pairs) and chain[0] == bar[0] and chain[-1] == bar[1]


def are_kept(names, pairs, unlikes, parts):
    """Whether any value is parts of the names that break no word."""
    if not is_partition(names, parts):
        return False
    homes = homes_of(parts)
    return all([is_within(pair, homes) for pair in pairs]) and not any([is_within(bar, homes) for bar in unlikes])


def hands_hold(names, sames, unlikes, value):
    """Whether any value is parts that break no word, or a ring of any length."""
    known, told, barred = need_hands(names, sames, unlikes)
    if is_tuple_of(value, 2) and value[0] == "kept":
        return are_kept(known, pairs_of(told), barred, value[1])
    return is_tuple_of(value, 3) and value[0] == "ring" and is_ring(pairs_of(told), barred, value[1], value[2])


def need_parts_of(names, parts):
    if not is_partition(names, parts):
        raise InvalidPeople(-1)


def pairs_between(pairs, homes):
    """The pairs of parts, by their places, that some pairs of names lie between."""
    return {pair_of(homes[one], homes[other]): True for one, other in pairs if homes[one] != homes[other]}


def settled(names, pairs, unlikes, parts):
    """As is_settled, of right parts."""
    homes = homes_of(parts)
    if tied_lots(names, [pair for pair in pairs if is_within(pair, homes)]) != parts:
        return False
    barred = pairs_between(unlikes, homes)
    return all([pair in barred for pair in pairs_between(pairs, homes)])


def is_settled(names, sames, unlikes, parts):
    """Whether each part is tied, and any two parts with a same between have an unlike between."""
    known, told, barred = need_hands(names, sames, unlikes)
    need_parts_of(known, parts)
    return settled(known, pairs_of(told), barred, parts)


def words_back(names, sames, unlikes, parts):
    """(pairs of sames between parts, unlikes within them), both ascending."""
    known, told, barred = need_hands(names, sames, unlikes)
    need_parts_of(known, parts)
    homes = homes_of(parts)
    between = tuple(sorted([pair for pair in pairs_of(told) if not is_within(pair, homes)]))
    return between, tuple([bar for bar in barred if is_within(bar, homes)])


def joined_parts(parts, pair):
    """Parts when those of both of a pair are one."""
    homes = homes_of(parts)
    if is_within(pair, homes):
        return parts
    both = [parts[homes[end]] for end in pair]
    return tuple(sorted([part for part in parts if part not in both] + [tuple(sorted(both[0] + both[1]))]))


def tied_partitions(names, pairs):
    """All partitions of which each part is tied by pairs within."""
    found = [tied_lots(names, [])]
    for pair in pairs:
        joined = [joined_parts(parts, pair) for parts in found]
        found = list({parts: True for parts in found + joined})
    return found


def settled_parts(names, sames, unlikes):
    """Ascending, all settled parts."""
    known, told, barred = need_hands(names, sames, unlikes)
    pairs = pairs_of(told)
    return tuple(sorted([parts for parts in tied_partitions(known, pairs) if settled(known, pairs, barred, parts)]))


def kept_words(pairs, unlikes, parts):
    """What parts keep: ("same", pair) within them, ("unlike", pair) between them."""
    homes = homes_of(parts)
    words = [("same", pair) for pair in pairs if is_within(pair, homes)]
    return words + [("unlike", bar) for bar in unlikes if not is_within(bar, homes)]


def ties_of(words):
    return [pair for word, pair in words if word == "same"]


def has_ring(names, words):
    """Whether some unlike of the words has both ends tied by their sames."""
    homes = homes_of(tied_lots(names, ties_of(words)))
    return any([word == "unlike" and is_within(pair, homes) for word, pair in words])


def filled_words(names, words, further):
    """Words without a ring, and each further one, in order, that makes none with those ahead."""
    kept = list(words)
    for word in further:
        if word not in kept and not has_ring(names, kept + [word]):
            kept.append(word)
    return kept


def next_settled(names, pairs, unlikes, here, goal):
    """Settled parts that keep what both keep, and a word more of the goal's."""
    mine, theirs = kept_words(pairs, unlikes, here), kept_words(pairs, unlikes, goal)
    common = [word for word in mine if word in theirs]
    new = [word for word in theirs if word not in mine][0]
    further = [("same", pair) for pair in pairs] + [("unlike", bar) for bar in unlikes]
    # What is kept here goes first: so what of it is lost makes a ring with the new word and what stays.
    return tied_lots(names, ties_of(filled_words(names, common + [new], mine + theirs + further)))


def steps_between(names, sames, unlikes, parts, goal):
    """A row of settled parts from the one to the goal, each next one nearer to it."""
    known, told, barred = need_hands(names, sames, unlikes)
    need_parts_of(known, parts)
    need_parts_of(known, goal)
    pairs = pairs_of(told)
    for place, row in enumerate((parts, goal)):
        if not settled(known, pairs, barred, row):
            raise Refused(place)
    steps = [parts]
    while steps[-1] != goal:
        steps.append(next_settled(known, pairs, barred, steps[-1], goal))
    return tuple(steps)


def need_same(names, sames, one, other):
    """The pair of a same as a tuple."""
    pair = pair_among(names, one, other)
    if pair is None or pair not in pairs_of(sames):
        raise InvalidIndex(-1)
    return pair


def doorways(names, pairs):
    """Rooms along pairs by which each name is gone through once: (name, 0) leads in, (name, 1) out."""
    rooms = {(name, side): {} for name in names for side in range(2)}
    for name in names:
        rooms[(name, 0)][(name, 1)] = 1
        rooms[(name, 1)][(name, 0)] = 0
    for one, other in pairs:
        for here, there in ((one, other), (other, one)):
            rooms[(here, 1)][(there, 0)] = 1
            rooms[(there, 0)][(here, 1)] = 0
    return rooms


def ring_through(names, pairs, pair, bar):
    """A chain from the bar's first to its second name in which both of the pair are neighbours, or None."""
    rooms = doorways(names, pairs)
    rooms["pair"] = {(end, 0): 1 for end in pair}
    for end in pair:
        rooms[(end, 0)]["pair"] = 0
    rows = star_rows("pair", rooms, {(end, 1): 1 for end in bar})
    if len(rows) < 2:
        return None
    chains = [[door[0] for door in way[1:] if door[1] == 0] for _, way in rows]
    first, second = chains if chains[0][-1] == bar[0] else (chains[1], chains[0])
    return tuple(first[::-1] + second)


def is_gate(names, pairs, pair, bar, gate):
    """Whether each chain from one of a pair to an end of a bar has this name."""
    left = [(one, other) for one, other in pairs if gate not in (one, other)]
    beside = neighbours(names, left)
    met = [chains_from(end, beside) for end in pair if end != gate]
    return not any([end in chains for chains in met for end in bar if end != gate])


def same_paper(names, sames, unlikes, one, other):
    """("ring", bar, chain) in whose chain a same is, or ("free", rows): that it is on no ring."""
    known, told, barred = need_hands(names, sames, unlikes)
    pair, pairs = need_same(known, told, one, other), pairs_of(told)
    rows = []
    for bar in barred:
        chain = ring_through(known, pairs, pair, bar)
        if chain is not None:
            return ("ring", bar, chain)
        # No two ways apart: so one name is on all.
        rows.append((bar, [name for name in known if is_gate(known, pairs, pair, bar, name)][0]))
    return ("free", tuple(rows))


def are_neighbours(chain, pair):
    """Whether both of a pair stand next to each other in a chain."""
    return pair in [pair_of(chain[at - 1], chain[at]) for at in range(1, len(chain))]


def is_gate_row(names, pairs, pair, bar, value):
    """Whether any value is (bar, name) for a bar, with a name that all chains have."""
    if not is_tuple_of(value, 2) or not same_value(value[0], bar):
        return False
    if not is_name_tuple(value[1]) or value[1] not in names:
        return False
    return is_gate(names, pairs, pair, bar, value[1])


def same_holds(names, sames, unlikes, one, other, value):
    """Whether any value is a ring with a same in its chain, or rows that show there is none."""
    known, told, barred = need_hands(names, sames, unlikes)
    pair, pairs = need_same(known, told, one, other), pairs_of(told)
    if is_tuple_of(value, 3) and value[0] == "ring":
        return is_ring(pairs, barred, value[1], value[2]) and are_neighbours(value[2], pair)
    if not is_tuple_of(value, 2) or value[0] != "free" or not is_tuple_of(value[1], len(barred)):
        return False
    return all([is_gate_row(known, pairs, pair, bar, value[1][at]) for at, bar in enumerate(barred)])
