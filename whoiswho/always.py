"""Webs in which the plain rule is best, whatever the weights of links ([43])."""

from whoiswho.best import Likes, are_groups, is_tie, loss_of, need_likes
from whoiswho.errors import InvalidSize, Refused
from whoiswho.people import fates_and_groups, in_order, people_in
from whoiswho.plain import homes_of, is_tuple_of, same_value, tied_lots

MOST_LINKS = 10


def rule_groups(likes):
    """As plain_groups, of a web that is known to be one."""
    bars = [(one, other) for _, one, other in likes.bars]
    return people_in(fates_and_groups(list(range(likes.things)), in_order(likes.links), bars)[1])


def plain_groups(likes):
    """The groups that links by falling weight tell, whatever the weights of bars."""
    need_likes(likes)
    return rule_groups(likes)


def need_hard(likes):
    """A web of few links and of bars without weights."""
    need_likes(likes)
    if any([weight is not None for weight, _, _ in likes.bars]):
        raise Refused("bars")
    if len(likes.links) > MOST_LINKS:
        raise InvalidSize("links")


def in_lot(lot, at):
    """Whether a lot, a number by its bits, has a link's place."""
    return (lot >> at) & 1 == 1


def lot_groups(likes, lot):
    """What the links of a lot tie together."""
    pairs = [(one, other) for at, (_, one, other) in enumerate(likes.links) if in_lot(lot, at)]
    return tied_lots(list(range(likes.things)), pairs)


def is_let(likes, lot):
    """Whether no bar is on two things that the links of a lot tie."""
    homes = homes_of(lot_groups(likes, lot))
    return not any([homes[one] == homes[other] for _, one, other in likes.bars])


def least_barred(let, many):
    """The least lots of so many links that are not let; let tells of each lot whether it is."""
    lots = [lot for lot in range(len(let)) if not let[lot]]
    return [lot for lot in lots if all([let[lot ^ (1 << at)] for at in range(many) if in_lot(lot, at)])]


def first_gap(let, many):
    """(one, other, at): two least lots that are not let, which but for a link that they share are let; or None."""
    barred = least_barred(let, many)
    for one in barred:
        for other in barred:
            for at in range(many):
                if one < other and in_lot(one & other, at) and let[(one | other) ^ (1 << at)]:
                    return one, other, at
    return None


def always_paper(likes):
    """("always",), or ("weights", links, groups): weights by which groups lose less than the plain ones."""
    need_hard(likes)
    many = len(likes.links)
    let = [is_let(likes, lot) for lot in range(1 << many)]
    gap = first_gap(let, many)
    if gap is None:
        return ("always",)
    one, other, at = gap
    # The rule keeps the heaviest links, those of both lots, and so it loses one more link of each lot at the least.
    # The groups lose one link of both lots alone, and what all further links weigh is less than another one.
    links = []
    for place, (_, low, high) in enumerate(likes.links):
        weight = many + 2 if in_lot(one & other, place) else many + 1 if in_lot(one | other, place) else 1
        links.append((weight, low, high))
    return ("weights", tuple(links), lot_groups(likes, (one | other) ^ (1 << at)))


def are_weighed(likes, value):
    """Whether any value is the links of a web, in order, with any weights from 1 on."""
    if not is_tuple_of(value, len(likes.links)):
        return False
    if not all([is_tie(link, likes.things, False) for link in value]):
        return False
    return same_value(tuple([link[1:] for link in value]), tuple([link[1:] for link in likes.links]))


def always_holds(likes, value):
    """Whether any value is ("always",), rightly, or any weights and groups that lose less by them."""
    need_hard(likes)
    if is_tuple_of(value, 1):
        return always_paper(likes) == value
    if not is_tuple_of(value, 3) or value[0] != "weights" or not are_weighed(likes, value[1]):
        return False
    if not are_groups(value[2], likes.things):
        return False
    web = Likes(likes.things, value[1], likes.bars)
    loss = loss_of(web, value[2])
    return loss is not None and loss < loss_of(web, rule_groups(web))
