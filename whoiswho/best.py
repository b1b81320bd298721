"""Webs of links and bars with weights, and the groups that lose least ([39], [40])."""

from whoiswho.errors import InvalidBars, InvalidLinks, InvalidPeople, InvalidSize
from whoiswho.flows import packed_rows
from whoiswho.plain import homes_of, is_below, is_number, is_number_lot, is_rising, is_row_of, is_sequence
from whoiswho.plain import is_tuple_of, is_whole, pair_of, tied_lots

MOST_THINGS = 12


class Likes:
    """A web: things, the numbers below a number, and weighted links and bars of theirs."""

    def __init__(self, things, links, bars):
        if not is_number(things) or things > MOST_THINGS:
            raise InvalidSize("things")
        fault = first_fault(links, things, False)
        if fault is not None:
            raise InvalidLinks(fault)
        fault = first_fault(bars, things, True)
        if fault is not None:
            raise InvalidBars(fault)
        self.things = things
        self.links = by_pairs(links)
        self.bars = by_pairs(bars)

    def __eq__(self, other):
        if not isinstance(other, Likes):
            return False
        return self.things == other.things and self.links == other.links and self.bars == other.bars


def is_tie(value, things, may_be_none):
    """Whether a value is (weight, one, other) of the things, perhaps without a weight."""
    if not is_row_of(value, 3):
        return False
    weight, one, other = value
    if not is_below(other, things) or not is_below(one, other):
        return False
    if weight is None:
        return may_be_none
    return is_whole(weight) and weight >= 1


def first_fault(rows, things, may_be_none):
    """The place of the first row that is none or comes again, -1 for no sequence, else None."""
    if not is_sequence(rows):
        return -1
    seen = {}
    for at, row in enumerate(rows):
        if not is_tie(row, things, may_be_none) or (row[1], row[2]) in seen:
            return at
        seen[(row[1], row[2])] = True
    return None


def by_pairs(rows):
    return tuple(sorted([tuple(row) for row in rows], key=lambda row: (row[1], row[2])))


def need_likes(likes):
    if not isinstance(likes, Likes):
        raise InvalidLinks(-1)


def are_groups(value, things):
    """Whether any value is a partition of the things, tuples alone."""
    if not isinstance(value, tuple) or not all([is_number_lot(group, things) for group in value]):
        return False
    return is_rising(value) and sorted([thing for group in value for thing in group]) == list(range(things))


def need_groups(likes, people):
    need_likes(likes)
    if not are_groups(people, likes.things):
        raise InvalidPeople(-1)


def likes_loss(likes, people):
    """The weights of links between groups and of bars within, None if a bar of None is within."""
    need_groups(likes, people)
    return loss_of(likes, people)


def loss_of(likes, people):
    home = homes_of(people)
    loss = sum([weight for weight, one, other in likes.links if home[one] != home[other]])
    for weight, one, other in likes.bars:
        if home[one] == home[other]:
            if weight is None:
                return None
            loss += weight
    return loss


def tight_people(likes, people):
    """Each group parted into what links within it tie together."""
    need_groups(likes, people)
    return tight_of(likes, people)


def tight_of(likes, people):
    home = homes_of(people)
    within = [(one, other) for _, one, other in likes.links if home[one] == home[other]]
    return tied_lots(list(range(likes.things)), within)


def told_as(told, pair, word):
    """Whether a pair is told so; it may be told both ways, one behind the other."""
    return told.get(pair, "") in (word, "both")


def told_costs(likes, told):
    """What each pair costs in two groups, and in one group: None where it must not be so."""
    apart = {(one, other): weight for weight, one, other in likes.links}
    within = {(one, other): weight for weight, one, other in likes.bars}
    for pair in told:
        if told_as(told, pair, "one"):
            apart[pair] = None
        else:
            within[pair] = None
    return apart, within


def home_cost(homes, home, costs):
    """What it costs to put the next thing in a group, beside those that have their homes."""
    cost = 0
    for thing, elder in enumerate(homes):
        pair_cost = costs[1 if elder == home else 0].get((thing, len(homes)), 0)
        if pair_cost is None:
            return None
        cost += pair_cost
    return cost


def try_homes(things, homes, loss, costs, best):
    """Goes through all groups that these homes begin; best keeps the least loss and its homes."""
    if best[0] is not None and loss >= best[0]:
        return
    if len(homes) == things:
        best[0] = loss
        best[1] = homes
        return
    for home in range(max(homes, default=-1) + 2):
        cost = home_cost(homes, home, costs)
        if cost is not None:
            try_homes(things, homes + (home,), loss + cost, costs, best)


def groups_at(homes):
    """The groups of things whose homes these are; homes are numbered as they first come."""
    many = max(homes, default=-1) + 1
    return tuple([tuple([thing for thing, at in enumerate(homes) if at == home]) for home in range(many)])


def least_groups(likes, told):
    """(loss, groups): some let groups of least loss that keep what is told of pairs; there must be some."""
    best = [None, None]
    try_homes(likes.things, (), 0, told_costs(likes, told), best)
    return best[0], groups_at(best[1])


def leaf_rooms(likes, told):
    """The rooms of ties and of bars at a leaf of a tree, None for those without bound."""
    ties = {(one, other): weight for weight, one, other in likes.links if (one, other) not in told}
    bars = {(one, other): weight for weight, one, other in likes.bars if (one, other) not in told or weight is None}
    for pair in told:
        if told_as(told, pair, "one"):
            ties[pair] = None
        if told_as(told, pair, "two"):
            bars[pair] = None
    return ties, bars


def told_loss(likes, told):
    """What all groups lose that keep what is told."""
    loss = sum([weight for weight, one, other in likes.links if told_as(told, (one, other), "two")])
    bars = [weight for weight, one, other in likes.bars if told_as(told, (one, other), "one")]
    return loss + sum([weight for weight in bars if weight is not None])


def bounded_rooms(rooms, bound):
    """The rooms with a number for those without bound."""
    return {pair: bound if rooms[pair] is None else rooms[pair] for pair in rooms}


def leaf_rows(likes, loss, told):
    """Rows by which no groups that keep what is told lose less, or None if none are found."""
    need = loss - told_loss(likes, told)
    if need <= 0:
        return ()
    ties, bars = leaf_rooms(likes, told)
    # No more than what is needed has to go anywhere, so this much is as good as no bound.
    rows = packed_rows(bounded_rooms(ties, need), bounded_rooms(bars, need))
    if sum([amount for amount, _ in rows]) < need:
        return None
    return rows


def pair_to_tell(likes, told):
    """The pair not told yet that weighs most, the least one of these."""
    weights = {(one, other): weight for weight, one, other in likes.links}
    for weight, one, other in likes.bars:
        weights[(one, other)] = weights.get((one, other), 0) + (0 if weight is None else weight)
    return min([(-weights[pair], pair) for pair in weights if pair not in told])[1]


def with_told(told, pair, word):
    """What is told behind a further word of a pair; of one told otherwise, too, both words hold."""
    behind = {other: told[other] for other in told}
    behind[pair] = word if told.get(pair, word) == word else "both"
    return behind


def grown_tree(likes, loss, told, most):
    """(tree, leaves): that no groups that keep what is told lose less; None if most leaves don't do."""
    if most < 1:
        return None
    rows = leaf_rows(likes, loss, told)
    if rows is not None:
        return ("rings", rows), 1
    pair = pair_to_tell(likes, told)
    first = grown_tree(likes, loss, with_told(told, pair, "one"), most - 1)
    if first is None:
        return None
    second = grown_tree(likes, loss, with_told(told, pair, "two"), most - first[1])
    if second is None:
        return None
    return ("pair", pair[0], pair[1], first[0], second[0]), first[1] + second[1]


def need_most(most):
    if not is_whole(most) or most < 1:
        raise InvalidSize("most")


def best_paper(likes, most):
    """("best", groups, loss, tree), or ("bound",) if a tree of at most so many leaves wasn't found."""
    need_likes(likes)
    need_most(most)
    loss, groups = least_groups(likes, {})
    grown = grown_tree(likes, loss, {}, most)
    if grown is None:
        return ("bound",)
    return ("best", groups, loss, grown[0])


def is_leaf_row(value, things):
    """Whether any value is (amount, way), of things that may be tied or not."""
    if not is_tuple_of(value, 2) or not is_whole(value[0]) or value[0] < 1:
        return False
    if not isinstance(value[1], tuple) or len(value[1]) < 2:
        return False
    return all([is_below(thing, things) for thing in value[1]])


def way_pairs(way):
    """The pairs of each two next things of a way."""
    return [pair_of(way[at - 1], way[at]) for at in range(1, len(way))]


def taken_fit(rooms, pairs):
    """Whether amounts of pairs (amount, pair) all go along pairs with room enough."""
    taken = {}
    for amount, pair in pairs:
        if pair not in rooms:
            return False
        taken[pair] = taken.get(pair, 0) + amount
    return all([rooms[pair] is None or taken[pair] <= rooms[pair] for pair in taken])


def leaf_holds(likes, loss, told, rows):
    """Whether any value is rows by which no groups that keep what is told lose less."""
    if not isinstance(rows, tuple) or not all([is_leaf_row(row, likes.things) for row in rows]):
        return False
    ties, bars = leaf_rooms(likes, told)
    if not taken_fit(ties, [(amount, pair) for amount, way in rows for pair in way_pairs(way)]):
        return False
    if not taken_fit(bars, [(amount, pair_of(way[0], way[-1])) for amount, way in rows]):
        return False
    return sum([amount for amount, _ in rows]) + told_loss(likes, told) >= loss


def tree_holds(likes, loss, told, tree):
    """Whether any value is a tree that no groups that keep what is told lose less."""
    if is_tuple_of(tree, 2) and tree[0] == "rings":
        return leaf_holds(likes, loss, told, tree[1])
    if not is_tuple_of(tree, 5) or tree[0] != "pair":
        return False
    pair = tree[1:3]
    if not is_below(pair[1], likes.things) or not is_below(pair[0], pair[1]):
        return False
    if not tree_holds(likes, loss, with_told(told, pair, "one"), tree[3]):
        return False
    return tree_holds(likes, loss, with_told(told, pair, "two"), tree[4])


def best_holds(likes, value):
    """Whether any value is ("best", groups, loss, tree), any groups and tree that show it."""
    need_likes(likes)
    if not is_tuple_of(value, 4) or value[0] != "best" or not are_groups(value[1], likes.things):
        return False
    if not is_whole(value[2]) or loss_of(likes, value[1]) != value[2]:
        return False
    return tree_holds(likes, value[2], {}, value[3])
