"""Parts that stay even if some answers are wrong, and the answers that this needs ([53])."""

from whoiswho.chains import chains_fit, repeated, rooms_of, total_of
from whoiswho.cuts import reached_things
from whoiswho.deeds import need_sames
from whoiswho.errors import InvalidPeople, InvalidSize
from whoiswho.flows import star_rows
from whoiswho.measures import is_parts
from whoiswho.people import in_order
from whoiswho.plain import homes_of, is_below, is_chain, is_name_group, is_number, is_tuple_of, neighbours, pair_of
from whoiswho.plain import tied_lots
from whoiswho.rings import pairs_of


def need_answers(parts, answers):
    """The answers in order, of right parts."""
    if not is_parts(parts):
        raise InvalidPeople(-1)
    return need_sames(sorted(homes_of(parts)), answers)


def need_wrong(wrong):
    if not is_number(wrong):
        raise InvalidSize("wrong")


def answers_within(answers, part):
    return [answer for answer in answers if answer[1] in part and answer[2] in part]


def told_between(answers, one, other):
    """How many answers are between two lots of names."""
    both = [(weight, a in one and b in other, a in other and b in one) for weight, a, b in answers]
    return sum([weight for weight, there, back in both if there or back])


def number_pairs(many):
    return [(one, other) for one in range(many) for other in range(one + 1, many)]


def first_joined(parts, answers, wrong):
    """The first two parts, by their numbers, with at most so many answers between, or None."""
    for one, other in number_pairs(len(parts)):
        if told_between(answers, parts[one], parts[other]) <= wrong:
            return one, other
    return None


def part_chains(part, answers, wrong):
    """(chains, lot): for each name but the first its chains, or a lot with at most so many answers to the rest."""
    rooms = rooms_of(answers_within(answers, part))
    chains = []
    for name in part[1:]:
        rows = star_rows(part[0], rooms, {name: wrong + 1})
        if total_of(rows) <= wrong:
            return None, tuple(sorted(reached_things(part[0], rooms, rows)))
        chains.append(repeated(rows, 1))
    return tuple(chains), None


def firm_paper(parts, answers, wrong):
    """("firm", chains), ("split", number, lot) or ("joined", one, other)."""
    told = need_answers(parts, answers)
    need_wrong(wrong)
    rows = []
    for number, part in enumerate(parts):
        chains, lot = part_chains(part, told, wrong)
        if chains is None:
            return ("split", number, lot)
        rows.append(chains)
    joined = first_joined(parts, told, wrong)
    if joined is not None:
        return ("joined", joined[0], joined[1])
    return ("firm", tuple(rows))


def are_ways(value, answers, first, name, wrong):
    """Whether any value is one chain more than may be wrong between two names, each answer as often as it is said."""
    pairs = pairs_of(answers)
    if not is_tuple_of(value, wrong + 1) or not all([is_chain(chain, pairs) for chain in value]):
        return False
    if not all([chain[0] == first and chain[-1] == name for chain in value]):
        return False
    return chains_fit(answers, value, 1)


def are_part_chains(value, answers, part, wrong):
    """Whether any value is such chains for each name of a part but the first."""
    if not is_tuple_of(value, len(part) - 1):
        return False
    within = answers_within(answers, part)
    return all([are_ways(value[at], within, part[0], name, wrong) for at, name in enumerate(part[1:])])


def is_split(parts, answers, number, lot, wrong):
    """Whether any values are a part, and some names of it with at most so many answers to its others."""
    if not is_below(number, len(parts)) or not is_name_group(lot):
        return False
    part = parts[number]
    if not all([name in part for name in lot]) or len(lot) == len(part):
        return False
    return told_between(answers, lot, [name for name in part if name not in lot]) <= wrong


def is_joined(parts, answers, one, other, wrong):
    """Whether any values are two parts' numbers, ascending, with at most so many answers between."""
    if not is_below(other, len(parts)) or not is_below(one, other):
        return False
    return told_between(answers, parts[one], parts[other]) <= wrong


def firm_holds(parts, answers, wrong, value):
    """Whether any value is a paper of these parts and answers."""
    told = need_answers(parts, answers)
    need_wrong(wrong)
    if is_tuple_of(value, 3) and value[0] == "split":
        return is_split(parts, told, value[1], value[2], wrong)
    if is_tuple_of(value, 3) and value[0] == "joined":
        return is_joined(parts, told, value[1], value[2], wrong)
    if not is_tuple_of(value, 2) or value[0] != "firm" or not is_tuple_of(value[1], len(parts)):
        return False
    if first_joined(parts, told, wrong) is not None:
        return False
    return all([are_part_chains(value[1][number], told, part, wrong) for number, part in enumerate(parts)])


def gathered(rows):
    """Answers, in order, of rows (weight, one, other): those of a pair together, those of weight 0 left out."""
    often = {}
    for weight, one, other in rows:
        pair = pair_of(one, other)
        often[pair] = often.get(pair, 0) + weight
    return in_order([(often[pair], pair[0], pair[1]) for pair in often if often[pair] > 0])


def fewest_within(part, wrong):
    """Fewest answers of a part such that it stays tied when so many go."""
    size = len(part)
    if wrong == 0 or size == 1:
        return [(1, part[at - 1], part[at]) for at in range(1, size)]
    # Round a ring each cut is crossed twice; where that is one too few, what is far apart round it is tied, too.
    rows = [((wrong + 1) // 2, part[at], part[(at + 1) % size]) for at in range(size)]
    if wrong % 2 == 0:
        rows.extend([(1, part[at], part[(at + size // 2) % size]) for at in range((size + 1) // 2)])
    return rows


def lacking_between(parts, answers, wrong):
    """For each two parts an answer between, as often as such lack to one more than may be wrong."""
    rows = []
    for one, other in number_pairs(len(parts)):
        lack = wrong + 1 - told_between(answers, parts[one], parts[other])
        rows.append((max(0, lack), parts[one][0], parts[other][0]))
    return rows


def fewest_answers(parts, wrong):
    """Fewest answers by which parts are firm."""
    need_answers(parts, ())
    need_wrong(wrong)
    rows = lacking_between(parts, (), wrong)
    for part in parts:
        rows.extend(fewest_within(part, wrong))
    return gathered(rows)


def is_bridge(part, answers, answer):
    """Whether both names of an answer are tied by it alone, said once."""
    homes = homes_of(tied_lots(part, pairs_of([other for other in answers if other != answer])))
    return answer[0] == 1 and homes[answer[1]] != homes[answer[2]]


def walked(start, beside):
    """The things of a tree in the order in which a walk round it comes to them."""
    order, left = [], [start]
    while len(left) > 0:
        here = left.pop()
        order.append(here)
        left.extend([thing for thing in beside[here] if thing not in order])
    return order


def ends_of_trees(many, ties):
    """For each tree of so many blocks its ends, as a walk round it comes to them; a block alone is two ends."""
    blocks = list(range(many))
    beside = neighbours(blocks, ties)
    trees = [walked(lot[0], beside) for lot in tied_lots(blocks, ties)]
    return [[block for block in tree if len(beside[block]) == 1] if len(tree) > 1 else tree * 2 for tree in trees]


def pairs_of_ends(trees):
    """Pairs of blocks by which no tie is needed alone: trees put in a row, then ends by halves of a walk round."""
    joins = [(trees[at - 1][-1], trees[at][0]) for at in range(1, len(trees))]
    left = []
    for at, ends in enumerate(trees):
        behind = len(ends) if at == len(trees) - 1 else len(ends) - 1
        left.extend(ends[0 if at == 0 else 1:behind])
    half = len(left) // 2
    return joins + [(left[at], left[at + half]) for at in range(len(left) - half)]


def further_within(part, answers, wrong):
    """Fewest further pairs of a part, such that it stays tied when so many answers go, none or one."""
    pairs = pairs_of(answers)
    if wrong == 0:
        lots = tied_lots(part, pairs)
        return [(lots[at - 1][0], lots[at][0]) for at in range(1, len(lots))]
    bridges = pairs_of([answer for answer in answers if is_bridge(part, answers, answer)])
    blocks = tied_lots(part, [pair for pair in pairs if pair not in bridges])
    if len(blocks) == 1:
        return []
    homes = homes_of(blocks)
    trees = ends_of_trees(len(blocks), [(homes[one], homes[other]) for one, other in bridges])
    return [(blocks[one][0], blocks[other][0]) for one, other in pairs_of_ends(trees)]


def further_answers(parts, answers, wrong):
    """Fewest further answers by which parts are firm, where none or one may be wrong."""
    told = need_answers(parts, answers)
    if not is_below(wrong, 2):
        raise InvalidSize("wrong")
    rows = lacking_between(parts, told, wrong)
    for part in parts:
        rows.extend([(1, one, other) for one, other in further_within(part, answers_within(told, part), wrong)])
    return gathered(rows)
