"""Which sames must be taken back so that two records are two, or why that never does ([65])."""

from whoiswho.books import need_book, vector_of
from whoiswho.cuts import reached_things
from whoiswho.deeds import hands_of, people_told, records_of, rule_of, web_told
from whoiswho.errors import InvalidIndex, Refused
from whoiswho.flows import rooms_both_ways, star_rows
from whoiswho.links import links_and_bars
from whoiswho.moments import lot_of
from whoiswho.people import piece_of
from whoiswho.plain import chains_from, homes_of, is_name_tuple, is_rising, is_tuple_of, neighbours, pair_of, tied_lots
from whoiswho.why import need_put


def rule_words(lot, piece):
    """(pairs, bars): what the lot's rule says of the records of a piece, whatever hands say."""
    rule = rule_of(lot)
    if rule is None:
        return (), ()
    links, bars = links_and_bars(rule, [record for record in records_of(lot) if record[0] in piece], {})
    return [(one, other) for _, one, other in links], bars


def need_one(book, one, other):
    """(homes, pairs, deeds) of the piece of two records that are one person.

    Homes has for each record its place: what the pairs that the rule links tie. Deeds are the sames that stand, by
    their marks: the two places that each ties.
    """
    vector = vector_of(need_book(book))
    need_put(book, vector, one, 0)
    need_put(book, vector, other, 1)
    if one == other:
        raise InvalidIndex(1)
    lot = lot_of(book)
    homes = homes_of(people_told(lot, {}))
    if one not in homes or other not in homes or homes[one] != homes[other]:
        raise Refused("two")
    names, links, _ = web_told(lot, {})
    piece = piece_of(names, links, one)
    pairs, bars = rule_words(lot, piece)
    _, unlikes = hands_of(lot, {name: True for name in piece})
    if len(bars) > 0 or len(unlikes) > 0:
        raise Refused("bars")
    places = homes_of(tied_lots(piece, pairs))
    sames = [(mark, word[1], word[2]) for mark, _, word in lot if word[0] == "same"]
    within = [same for same in sames if same[1] in places and same[2] in places]
    return places, pairs, {mark: (places[near], places[far]) for mark, near, far in within}


def marks_by_places(deeds):
    """For each two places the marks of the deeds that tie them."""
    marks = {}
    for mark in deeds:
        pair = pair_of(deeds[mark][0], deeds[mark][1])
        if pair[0] != pair[1]:
            marks.setdefault(pair, []).append(mark)
    return marks


def chains_of(rows, marks):
    """The ways of rows (amount, way), each as often as its amount, along marks, none twice."""
    left = {pair: list(marks[pair]) for pair in marks}
    ways = [way for amount, way in rows for _ in range(amount)]
    return tuple([tuple([left[pair_of(way[at - 1], way[at])].pop() for at in range(1, len(way))]) for way in ways])


def taken_paper(book, one, other):
    """("never", names), a way along the rule's links, or ("fewest", marks, chains)."""
    places, pairs, deeds = need_one(book, one, other)
    way = chains_from(one, neighbours(sorted(places), pairs)).get(other, None)
    if way is not None:
        return ("never", way)
    marks = marks_by_places(deeds)
    rooms = rooms_both_ways({pair: len(marks[pair]) for pair in marks})
    rows = star_rows(places[one], rooms, {places[other]: len(deeds) + 1})
    reached = reached_things(places[one], rooms, rows)
    fewest = [mark for mark in deeds if (deeds[mark][0] in reached) != (deeds[mark][1] in reached)]
    return ("fewest", tuple(sorted(fewest)), chains_of(rows, marks))


def is_way(value, pairs, one, other):
    """Whether any value is names from the one to the other, each two next ones of some pairs."""
    if not isinstance(value, tuple) or len(value) == 0 or not all([is_name_tuple(name) for name in value]):
        return False
    if value[0] != one or value[-1] != other:
        return False
    return all([pair_of(value[at - 1], value[at]) in pairs for at in range(1, len(value))])


def are_marks(value, deeds):
    """Whether any value is a tuple of marks of deeds."""
    return isinstance(value, tuple) and all([is_name_tuple(mark) and mark in deeds for mark in value])


def end_of(start, chain, deeds):
    """The place to which deeds lead from a place, one after another, or None."""
    here = start
    for mark in chain:
        one, other = deeds[mark]
        if one == other or here not in (one, other):
            return None
        here = other if here == one else one
    return here


def fewest_hold(places, deeds, ends, marks, chains):
    """Whether any values are deeds without which two places are not tied, and as many chains of unlike deeds."""
    if not are_marks(marks, deeds) or not is_rising(marks) or not is_tuple_of(chains, len(marks)):
        return False
    left = [deeds[mark] for mark in deeds if mark not in marks]
    lots = homes_of(tied_lots(sorted({places[name] for name in places}), left))
    if lots[ends[0]] == lots[ends[1]] or not all([are_marks(chain, deeds) for chain in chains]):
        return False
    gone = [mark for chain in chains for mark in chain]
    if len({mark for mark in gone}) < len(gone):
        return False
    return all([end_of(ends[0], chain, deeds) == ends[1] for chain in chains])


def taken_holds(book, one, other, value):
    """Whether any value is a way along the rule's links, or fewest sames and chains that show it."""
    places, pairs, deeds = need_one(book, one, other)
    if is_tuple_of(value, 2) and value[0] == "never":
        return is_way(value[1], pairs, one, other)
    if not is_tuple_of(value, 3) or value[0] != "fewest":
        return False
    return fewest_hold(places, deeds, (places[one], places[other]), value[1], value[2])
