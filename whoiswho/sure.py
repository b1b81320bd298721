"""What is so in all best groups, told step by step ([42])."""

from whoiswho.best import Likes, need_likes
from whoiswho.cuts import reached_things
from whoiswho.errors import Refused
from whoiswho.flows import rooms_both_ways, star_rows
from whoiswho.plain import is_below, is_number_lot, is_tuple_of, pair_of


def added_weights(rows, homes):
    """By pairs of groups the weights of rows between them together, None with any of None."""
    weights = {}
    for weight, one, other in rows:
        pair = pair_of(homes[one], homes[other])
        if pair[0] != pair[1]:
            elder = weights.get(pair, 0)
            weights[pair] = None if weight is None or elder is None else elder + weight
    return weights


def first_homes(likes):
    """For each thing the least thing of its group: each is a group at first."""
    return {thing: thing for thing in range(likes.things)}


def joined_homes(homes, one, other):
    """The homes when the groups of two things are one."""
    low, high = pair_of(homes[one], homes[other])
    return {thing: low if homes[thing] == high else homes[thing] for thing in homes}


def weights_now(likes, homes, twos):
    """(links, bars) between groups by pairs, those told two with bars of None."""
    return added_weights(likes.links, homes), added_weights(likes.bars + tuple(twos), homes)


def leading(weights, side):
    """The weights that lead from a side to the rest."""
    return [weights[pair] for pair in weights if (pair[0] in side) != (pair[1] in side)]


def is_greater(links, bars, word, pair, side):
    """Whether a word may be told of two groups, by what leads from a side with the one to the rest."""
    if word == "two":
        weight = bars.get(pair, None)
        return weight is not None and weight > sum(leading(links, side))
    across = leading(links, side) + leading(bars, side)
    if any([weight is None for weight in across]):
        return False
    return 2 * links.get(pair, 0) > sum(across)


def is_step(value, things):
    """Whether any value has the form of a step, in tuples."""
    if not is_tuple_of(value, 4) or not isinstance(value[0], str) or value[0] not in ("one", "two"):
        return False
    _, one, other, side = value
    if not is_below(one, things) or not is_below(other, things) or not is_number_lot(side, things):
        return False
    return one in side and other not in side


def behind_steps(likes, value):
    """(homes, twos) behind any value, if it is a tuple of steps that may be told, or None."""
    if not isinstance(value, tuple):
        return None
    homes, twos = first_homes(likes), []
    for step in value:
        if not is_step(step, likes.things):
            return None
        word, one, other, side = step
        if any([(thing in side) != (homes[thing] in side) for thing in homes]):
            return None
        links, bars = weights_now(likes, homes, twos)
        if not is_greater(links, bars, word, pair_of(homes[one], homes[other]), side):
            return None
        if word == "one":
            homes = joined_homes(homes, one, other)
        else:
            twos.append((None, one, other))
    return homes, twos


def least_side(weights, one, other):
    """The groups of a side with the one, without the other, such that the least leads to the rest."""
    rooms = rooms_both_ways(weights)
    rows = star_rows(one, rooms, {other: sum(list(weights.values())) + 1})
    return reached_things(one, rooms, rows)


def both_together(links, bars):
    """Links and bars by pairs together; what is never let is more than all others are twice."""
    numbers = list(links.values()) + [bars[pair] for pair in bars if bars[pair] is not None]
    bound = 2 * sum(numbers) + 1
    together = {pair: links[pair] for pair in links}
    for pair in bars:
        together[pair] = together.get(pair, 0) + (bound if bars[pair] is None else bars[pair])
    return together


def next_step(likes, homes, twos):
    """Some step that may be told, or None."""
    links, bars = weights_now(likes, homes, twos)
    together = both_together(links, bars)
    words = [("two", pair) for pair in sorted(bars) if bars[pair] is not None]
    words.extend([("one", pair) for pair in sorted(links)])
    for word, pair in words:
        groups = least_side(links if word == "two" else together, pair[0], pair[1])
        side = tuple([thing for thing in sorted(homes) if homes[thing] in groups])
        if is_greater(links, bars, word, pair, side):
            return (word, pair[0], pair[1], side)
    return None


def sure_steps(likes):
    """Some steps that tell pairs, behind which none may be told."""
    need_likes(likes)
    homes, twos, steps = first_homes(likes), [], []
    step = next_step(likes, homes, twos)
    while step is not None:
        steps.append(step)
        if step[0] == "one":
            homes = joined_homes(homes, step[1], step[2])
        else:
            twos.append((None, step[1], step[2]))
        step = next_step(likes, homes, twos)
    return tuple(steps)


def sure_holds(likes, value):
    """Whether any value is a tuple of steps that may be told, one behind the other."""
    need_likes(likes)
    return behind_steps(likes, value) is not None


def left_likes(likes, steps):
    """(groups, lost, web): the groups behind steps, the bars lost within them, the web of their places."""
    need_likes(likes)
    behind = behind_steps(likes, steps)
    if behind is None:
        raise Refused("steps")
    homes, twos = behind
    firsts = sorted({homes[thing] for thing in homes})
    places = {first: at for at, first in enumerate(firsts)}
    links, bars = weights_now(likes, homes, twos)
    web_links = [(links[pair], places[pair[0]], places[pair[1]]) for pair in links]
    web_bars = [(bars[pair], places[pair[0]], places[pair[1]]) for pair in bars]
    lost = sum([weight for weight, one, other in likes.bars if homes[one] == homes[other]])
    groups = [tuple([thing for thing in sorted(homes) if homes[thing] == first]) for first in firsts]
    return tuple(groups), lost, Likes(len(firsts), web_links, web_bars)
