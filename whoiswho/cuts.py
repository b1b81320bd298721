"""Best groups where all bars share a thing: a flow and a least cut ([41])."""

from whoiswho.best import leaf_rooms, loss_of, need_likes
from whoiswho.errors import Refused
from whoiswho.flows import rooms_both_ways, star_rows
from whoiswho.plain import tied_lots


def shared_thing(likes):
    """The least thing that all bars share; there are some."""
    shared = [thing for thing in likes.bars[0][1:] if all([thing in bar[1:] for bar in likes.bars])]
    if len(shared) == 0:
        raise Refused("bars")
    return shared[0]


def reached_things(centre, rooms, rows):
    """What the room that rows leave still reaches from a thing."""
    left = {one: {other: rooms[one][other] for other in rooms[one]} for one in rooms}
    for amount, way in rows:
        for at in range(1, len(way)):
            left[way[at - 1]][way[at]] -= amount
            left[way[at]][way[at - 1]] += amount
    reached = [centre]
    at = 0
    while at < len(reached):
        beside = left.get(reached[at], {})
        further = [thing for thing in beside if beside[thing] > 0 and thing not in reached]
        reached.extend(further)
        at += 1
    return reached


def parted_groups(likes, reached):
    """The groups when what is reached is one of them, and links tie the others."""
    rest = [thing for thing in range(likes.things) if thing not in reached]
    pairs = [(one, other) for _, one, other in likes.links if one in rest and other in rest]
    return tuple(sorted([tuple(sorted(reached))] + list(tied_lots(rest, pairs))))


def star_paper(likes):
    """("best", groups, loss, tree) with a tree of one leaf, of a web whose bars share a thing."""
    need_likes(likes)
    if len(likes.bars) == 0:
        pairs = [(one, other) for _, one, other in likes.links]
        return ("best", tied_lots(list(range(likes.things)), pairs), 0, ("rings", ()))
    centre = shared_thing(likes)
    ties, bars = leaf_rooms(likes, {})
    # More than all links let through is as good as no bound, and is never used up.
    bound = sum([weight for weight, _, _ in likes.links]) + 1
    rooms = rooms_both_ways(ties)
    ends = rooms_both_ways({pair: bound if bars[pair] is None else bars[pair] for pair in bars})[centre]
    rows = star_rows(centre, rooms, ends)
    groups = parted_groups(likes, reached_things(centre, rooms, rows))
    return ("best", groups, loss_of(likes, groups), ("rings", tuple(rows)))
