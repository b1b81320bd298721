"""Plain ways to go through webs of links and bars, and to look at trees."""

from whoiswho.best import Likes


def partitions(things):
    """All partitions of the numbers below things, in the form of groups."""
    found = [[]]
    for thing in range(things):
        found = [parts[:at] + [parts[at] + [thing]] + parts[at + 1:] for parts in found for at in range(len(parts))] \
            + [parts + [[thing]] for parts in found]
    return [tuple(sorted(tuple(part) for part in parts)) for parts in found]


def together(people, one, other):
    return any(one in group and other in group for group in people)


def plain_loss(web, people):
    loss = 0
    for weight, one, other in web.links:
        loss += 0 if together(people, one, other) else weight
    for weight, one, other in web.bars:
        if together(people, one, other):
            if weight is None:
                return None
            loss += weight
    return loss


def plain_tight(web, people):
    out = []
    for group in people:
        left = list(group)
        while left:
            lot = [left.pop(0)]
            for here in lot:
                for _, one, other in web.links:
                    for a, b in ((one, other), (other, one)):
                        if a == here and b in left:
                            left.remove(b)
                            lot.append(b)
            out.append(tuple(sorted(lot)))
    return tuple(sorted(out))


def plain_best(web, told=()):
    """(least loss, all groups of it) of those that keep what is told ((one, other), word)."""
    rows = []
    for people in partitions(web.things):
        if all(together(people, *pair) == (word == "one") for pair, word in told):
            loss = plain_loss(web, people)
            if loss is not None:
                rows.append((loss, people))
    if not rows:
        return None, []
    least = min(rows)[0]
    return least, [people for loss, people in rows if loss == least]


def is_int(value, least=0):
    return type(value) is int and value >= least


def plain_groups(web, value):
    return type(value) is tuple and all(type(group) is tuple and all(is_int(thing) for thing in group)
                                        for group in value) and value in partitions(web.things)


def plain_tree(web, loss, tree, told):
    """Whether a tree shows that no groups that keep what is told lose less."""
    if type(tree) is not tuple or not tree or type(tree[0]) is not str:
        return False
    if tree[0] == "pair":
        if len(tree) != 5 or not is_int(tree[1]) or not is_int(tree[2]):
            return False
        pair = (tree[1], tree[2])
        if not pair[0] < pair[1] < web.things:
            return False
        return all(plain_tree(web, loss, tree[3 + at], told + ((pair, word),)) for at, word in enumerate(("one", "two")))
    if tree[0] != "rings" or len(tree) != 2 or type(tree[1]) is not tuple:
        return False
    ones = {pair for pair, word in told if word == "one"}
    twos = {pair for pair, word in told if word == "two"}
    links = {(one, other): weight for weight, one, other in web.links}
    bars = {(one, other): weight for weight, one, other in web.bars}
    many = 0
    along = {}
    for row in tree[1]:
        if type(row) is not tuple or len(row) != 2 or not is_int(row[0], 1):
            return False
        amount, way = row
        if type(way) is not tuple or len(way) < 2 or not all(is_int(thing) and thing < web.things for thing in way):
            return False
        many += amount
        for at in range(len(way) - 1):
            pair = tuple(sorted(way[at:at + 2]))
            if pair in ones:
                continue
            if pair in twos or pair not in links:
                return False
            along[("link", pair)] = along.get(("link", pair), 0) + amount
        ends = tuple(sorted((way[0], way[-1])))
        if ends in twos or (ends in bars and bars[ends] is None):
            continue
        if ends in ones or ends not in bars:
            return False
        along[("bar", ends)] = along.get(("bar", ends), 0) + amount
    for (kind, pair), amount in along.items():
        if amount > (links if kind == "link" else bars)[pair]:
            return False
    many += sum(links.get(pair, 0) for pair in twos)
    many += sum(bars.get(pair, 0) or 0 for pair in ones)
    return many >= loss


def told_again(choice, tree, way=()):
    """A tree in which some pairs stand on a way again; some leaves may have lost their rows."""
    if way and choice.random() < 0.5:
        pair = choice.choice(way)
        return ("pair",) + pair + tuple(told_again(choice, tree, choice.choice([(), way])) for _ in range(2))
    if tree[0] == "pair":
        behind = way + (tree[1:3],)
        return tree[:3] + tuple(told_again(choice, part, behind) for part in tree[3:])
    return tree if choice.random() < 0.6 else ("rings", tree[1][1:])


def leaves(tree):
    return 1 if tree[0] == "rings" else leaves(tree[3]) + leaves(tree[4])


def some_web(choice, things, most_pairs):
    pairs = [(one, other) for one in range(things) for other in range(one + 1, things)]
    choice.shuffle(pairs)
    links, bars = [], []
    for pair in pairs[:choice.randint(0, most_pairs)]:
        kind = choice.random()
        if kind < 0.65:
            links.append((choice.randint(1, 9),) + pair)
        if kind > 0.55:
            bars.append((choice.choice([None, 1, 2, 3, 5, 9]),) + pair)
    return Likes(things, links, bars)


def star_web(choice, things):
    """All bars share a thing, links are on any pairs."""
    centre = choice.randrange(things)
    pairs = [(one, other) for one in range(things) for other in range(one + 1, things)]
    links = [(choice.randint(1, 9),) + pair for pair in pairs if choice.random() < 0.6]
    bars = [(choice.choice([None, 1, 2, 3, 5, 9]),) + pair for pair in pairs if centre in pair and choice.random() < 0.7]
    return Likes(things, links, bars)


def count_pairs(web):
    return len({row[1:] for row in web.links + web.bars})
