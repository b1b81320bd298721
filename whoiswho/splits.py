"""Steps between partitions, what lies between and beside them, and many judges ([67], [68])."""

from whoiswho.errors import InvalidIndex, InvalidSteps, Refused
from whoiswho.measures import counts_of, is_parts, need_parts, need_same_names
from whoiswho.plain import chains_from, has_list, homes_of, in_tuples, is_chain, is_name_group, is_sequence
from whoiswho.plain import is_tuple_of, neighbours, pair_of, same_value, tied_lots


def split_group(group, part):
    """What is left of a group without a part, or None if this can't be split off."""
    if part[0] == group[0] or not all([name in group for name in part]):
        return None
    return tuple([name for name in group if name not in part])


def step_behind(parts, step):
    """(parts, pairs): behind a step, and how many pairs it turns; None if it is none of what is there."""
    if not is_tuple_of(step, 3) or not is_name_group(step[1]) or not is_name_group(step[2]) or step[1] not in parts:
        return None
    word, group, other = step
    rest = [row for row in parts if row != group]
    if word == "split":
        left = split_group(group, other)
        if left is None:
            return None
        return tuple(sorted(rest + [left, other])), len(left) * len(other)
    if word == "join" and other in rest and group < other:
        joined = tuple(sorted(group + other))
        return tuple(sorted([row for row in rest if row != other] + [joined])), len(group) * len(other)
    return None


def gone_through(parts, steps):
    """(parts, pairs): behind all steps, and how many pairs they turn, one step after another."""
    need_parts(parts)
    if not is_sequence(steps):
        raise InvalidSteps(-1)
    here, turned = parts, 0
    for at, step in enumerate(steps):
        behind = step_behind(here, in_tuples(step))
        if behind is None:
            raise InvalidSteps(at)
        here = behind[0]
        turned += behind[1]
    return here, turned


def steps_after(parts, steps):
    """The parts behind steps, one after another."""
    return gone_through(parts, steps)[0]


def steps_cost(parts, steps):
    """How many pairs the steps turn, each step's counted for itself."""
    return gone_through(parts, steps)[1]


def next_pairs(parts):
    """Each two next names of each group."""
    return [(group[at - 1], group[at]) for group in parts for at in range(1, len(group))]


def above_of(one, other):
    """As above_parts, of parts that are known to be right."""
    return tied_lots(sorted(homes_of(one)), next_pairs(one + other))


def below_of(one, other):
    """As below_parts, of parts that are known to be right."""
    homes, others = homes_of(one), homes_of(other)
    cells = {}
    for name in sorted(homes):
        cells.setdefault((homes[name], others[name]), []).append(name)
    return tuple(sorted([tuple(cells[cell]) for cell in cells]))


def height_of(one, other):
    """As steps_height, of parts that are known to be right."""
    return len(one) + len(other) - 2 * len(above_of(one, other))


def above_parts(one, other):
    """What hangs together by groups of either parts."""
    need_same_names(one, other)
    return above_of(one, other)


def below_parts(one, other):
    """What is in one group of both parts."""
    need_same_names(one, other)
    return below_of(one, other)


def steps_height(one, other):
    """How many steps lead from the one parts to the other at the fewest."""
    need_same_names(one, other)
    return height_of(one, other)


def join_steps(lower, upper):
    """Joins that lead from parts to those above them."""
    steps = []
    for group in upper:
        within = [part for part in lower if part[0] in group]
        joined = within[0]
        for part in within[1:]:
            steps.append(("join", joined, part))
            joined = tuple(sorted(joined + part))
    return tuple(steps)


def split_steps(upper, lower):
    """Splits that lead from parts to those below them."""
    steps = []
    for group in upper:
        left = group
        within = [part for part in lower if part[0] in group]
        for part in within[1:]:
            steps.append(("split", left, part))
            left = split_group(left, part)
    return tuple(steps)


def fewest_steps(one, other):
    """Fewest steps from the one parts to the other: joins, then splits."""
    need_same_names(one, other)
    above = above_of(one, other)
    return join_steps(one, above) + split_steps(above, other)


def split_first(one, other):
    """Fewest steps of those in which all splits are ahead of all joins."""
    need_same_names(one, other)
    below = below_of(one, other)
    return split_steps(one, below) + join_steps(below, other)


def steps_hold(one, other, value):
    """Whether any value is a row of fewest steps from the one parts to the other, in tuples."""
    need_same_names(one, other)
    if not isinstance(value, tuple) or has_list(value) or len(value) != height_of(one, other):
        return False
    try:
        return steps_after(one, value) == other
    except InvalidSteps:
        return False


def need_three(one, middle, other):
    """Raises the errors of three parts that are not parts of the same names."""
    need_parts(one)
    need_parts(middle)
    need_parts(other)
    need_same_names(one, middle)
    need_same_names(middle, other)


def is_between(one, middle, other):
    """Whether the middle parts stand on a row of fewest steps from the one to the other."""
    need_three(one, middle, other)
    return height_of(one, middle) + height_of(middle, other) == height_of(one, other)


def unlike_many(one, other):
    """How many pairs have unlike answers."""
    counts = counts_of(one, other)
    return counts[1] + counts[2]


def is_beside(one, middle, other):
    """Whether the middle parts stand on a row of the least cost from the one to the other."""
    need_three(one, middle, other)
    return unlike_many(one, middle) + unlike_many(middle, other) == unlike_many(one, other)


def need_judges(rows):
    """Raises the errors of rows that are not one or more parts of the same names."""
    if not is_sequence(rows) or len(rows) == 0:
        raise InvalidIndex(-1)
    for at, parts in enumerate(rows):
        if not is_parts(parts):
            raise InvalidIndex(at)
    names = sorted(homes_of(rows[0]))
    if any([sorted(homes_of(parts)) != names for parts in rows]):
        raise Refused("names")
    return names


def one_counts(rows, names):
    """For each pair of names how many of the parts answer "one"."""
    homes = [homes_of(parts) for parts in rows]
    counts = {}
    for at, one in enumerate(names):
        for other in names[at + 1:]:
            counts[(one, other)] = len([1 for home in homes if home[one] == home[other]])
    return counts


def judged_paper(rows, names):
    """As judges_paper, of rows that are known to be right."""
    counts = one_counts(rows, names)
    ones = [pair for pair in counts if 2 * counts[pair] > len(rows)]
    parts = tied_lots(names, ones)
    homes = homes_of(parts)
    unlike = 0
    for one, other in counts:
        within = homes[one] == homes[other]
        if within and 2 * counts[(one, other)] < len(rows):
            return ("chain", chains_from(one, neighbours(names, ones))[other])
        unlike += len(rows) - counts[(one, other)] if within else counts[(one, other)]
    return ("whole", parts, unlike)


def judges_paper(rows):
    """("whole", parts, sum) or ("chain", names): whether what most judges answer is parts."""
    return judged_paper(rows, need_judges(rows))


def is_broken_chain(rows, names, value):
    """Whether any value is three names or more, next ones called one by most, the ends by fewer than half."""
    counts = one_counts(rows, names)
    ones = [pair for pair in counts if 2 * counts[pair] > len(rows)]
    if not is_chain(value, ones) or len(value) < 3:
        return False
    return 2 * counts[pair_of(value[0], value[-1])] < len(rows)


def judges_hold(rows, value):
    """Whether any value is a paper of these judges, any such chain."""
    names = need_judges(rows)
    if is_tuple_of(value, 2) and value[0] == "chain":
        return is_broken_chain(rows, names, value[1])
    paper = judged_paper(rows, names)
    return paper[0] == "whole" and same_value(paper, value)
