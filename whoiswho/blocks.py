"""Blocks of webs, how many groups are best, and what a pair is in them ([43])."""

from whoiswho.best import Likes, are_groups, groups_at, grown_tree, home_cost, least_groups, loss_of
from whoiswho.best import need_likes, need_most, tight_of, told_costs, tree_holds
from whoiswho.errors import InvalidIndex
from whoiswho.plain import homes_of, is_below, is_tuple_of, is_whole, pair_of, tied_lots


def pairs_of(likes):
    """Ascending, the pairs that have a link or a bar."""
    return sorted({(one, other) for _, one, other in likes.links + likes.bars})


def other_end(pair, thing):
    return pair[1] if pair[0] == thing else pair[0]


def tied_at(pairs, thing, things):
    """The pairs of a thing, each tied to one whose other end hangs together with its own without it."""
    left = [pair for pair in pairs if thing not in pair]
    firsts, ties = {}, []
    at_thing = [pair for pair in pairs if thing in pair]
    lots = tied_lots([other for other in range(things) if other != thing], left)
    homes = homes_of(lots)
    for pair in at_thing:
        lot = homes[other_end(pair, thing)]
        ties.append((firsts.setdefault(lot, pair), pair))
    return ties


def like_blocks(likes):
    """Ascending, the lots of things of blocks; things without a pair are alone."""
    need_likes(likes)
    pairs = pairs_of(likes)
    ties = []
    for thing in range(likes.things):
        ties.extend(tied_at(pairs, thing, likes.things))
    blocks = [tuple(sorted({end for pair in lot for end in pair})) for lot in tied_lots(pairs, ties)]
    paired = {thing: True for pair in pairs for thing in pair}
    alone = [(thing,) for thing in range(likes.things) if thing not in paired]
    return tuple(sorted(blocks + alone))


def part_web(likes, lot):
    """The web of some things alone, numbered in order."""
    places = {thing: at for at, thing in enumerate(lot)}
    links = [(weight, places[a], places[b]) for weight, a, b in likes.links if a in places and b in places]
    bars = [(weight, places[a], places[b]) for weight, a, b in likes.bars if a in places and b in places]
    return Likes(len(lot), links, bars)


def count_behind(likes, homes, loss, costs, least):
    """How many tight groups of the least loss these homes begin."""
    if loss > least:
        return 0
    if len(homes) == likes.things:
        groups = groups_at(homes)
        return 1 if loss == least and tight_of(likes, groups) == groups else 0
    count = 0
    for home in range(max(homes, default=-1) + 2):
        cost = home_cost(homes, home, costs)
        if cost is not None:
            count += count_behind(likes, homes + (home,), loss + cost, costs, least)
    return count


def best_count(likes):
    """How many best groups are tight."""
    count = 1
    for lot in like_blocks(likes):
        web = part_web(likes, lot)
        least = least_groups(web, {})[0]
        count *= count_behind(web, (), 0, told_costs(web, {}), least)
    return count


def need_pair(likes, one, other):
    """Two unlike things, the lesser first."""
    need_likes(likes)
    if not is_below(one, likes.things):
        raise InvalidIndex(0)
    if not is_below(other, likes.things) or other == one:
        raise InvalidIndex(1)
    return pair_of(one, other)


def is_kept_apart(likes, pair):
    """Whether a bar of None is on a pair."""
    return any([weight is None and (one, other) == pair for weight, one, other in likes.bars])


def loss_word(first, second):
    """What a pair is in best groups, of the least losses with it in one and in two."""
    if first == second:
        return "open"
    return "one" if first < second else "two"


def side_paper(likes, pair, word, most):
    """((loss, groups, tree), leaves), of groups with a pair told, None if most leaves don't do."""
    told = {pair: word}
    loss, groups = least_groups(likes, told)
    grown = grown_tree(likes, loss, told, most)
    if grown is None:
        return None
    return (loss, groups, grown[0]), grown[1]


def word_paper(likes, one, other, most):
    """(word, first, second): what a pair is in best groups, and the best with it in one, in two."""
    pair = need_pair(likes, one, other)
    need_most(most)
    if is_kept_apart(likes, pair):
        second = side_paper(likes, pair, "two", most)
        return ("bound",) if second is None else ("two", None, second[0])
    first = side_paper(likes, pair, "one", most - 1)
    if first is None:
        return ("bound",)
    second = side_paper(likes, pair, "two", most - first[1])
    if second is None:
        return ("bound",)
    return loss_word(first[0][0], second[0][0]), first[0], second[0]


def side_holds(likes, pair, word, value):
    """Whether any value is (loss, groups, tree): some groups of least loss with a pair told."""
    if not is_tuple_of(value, 3) or not is_whole(value[0]) or not are_groups(value[1], likes.things):
        return False
    home = homes_of(value[1])
    if (home[pair[0]] == home[pair[1]]) != (word == "one") or loss_of(likes, value[1]) != value[0]:
        return False
    return tree_holds(likes, value[0], {pair: word}, value[2])


def word_holds(likes, one, other, value):
    """Whether any value is (word, first, second), any such groups and trees."""
    pair = need_pair(likes, one, other)
    if not is_tuple_of(value, 3) or not side_holds(likes, pair, "two", value[2]):
        return False
    if is_kept_apart(likes, pair):
        return value[1] is None and value[0] == "two"
    if not side_holds(likes, pair, "one", value[1]):
        return False
    return value[0] == loss_word(value[1][0], value[2][0])


def turning_weight(likes, one, other):
    """The weight of a pair's link at which it is open; None if a bar of None is on it."""
    pair = need_pair(likes, one, other)
    if is_kept_apart(likes, pair):
        return None
    links = [link for link in likes.links if (link[1], link[2]) != pair]
    bars = [bar for bar in likes.bars if (bar[1], bar[2]) != pair]
    web = Likes(likes.things, links, bars)
    return least_groups(web, {pair: "one"})[0] - least_groups(web, {pair: "two"})[0]
