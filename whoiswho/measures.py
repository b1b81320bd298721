"""Two partitions of the same names beside each other ([66])."""

from whoiswho.errors import InvalidIndex, InvalidPeople, NoRecord, Refused
from whoiswho.plain import homes_of, is_name, is_name_group, is_whole


def need_parts(value):
    """Any value, if it is parts: an ascending tuple of ascending tuples of names."""
    if not isinstance(value, tuple):
        raise InvalidPeople(-1)
    seen = {}
    for at, group in enumerate(value):
        if not is_name_group(group) or any([name in seen for name in group]):
            raise InvalidPeople(at)
        if at > 0 and not value[at - 1] < group:
            raise InvalidPeople(at)
        for name in group:
            seen[name] = True
    return value


def is_parts(value):
    """Whether any value is parts."""
    try:
        need_parts(value)
    except InvalidPeople:
        return False
    return True


def need_same_names(one, other):
    """Raises the errors of two parts that are not parts of the same names."""
    need_parts(one)
    need_parts(other)
    if sorted(homes_of(one)) != sorted(homes_of(other)):
        raise Refused("names")


def cells_of(one, other):
    """How many names each two groups (i, j) have in common, of those that have some."""
    homes, others = homes_of(one), homes_of(other)
    cells = {}
    for name in homes:
        cell = (homes[name], others[name])
        cells[cell] = cells.get(cell, 0) + 1
    return cells


def cell_counts(one, other):
    """Ascending, (i, j, many) for the groups of both that have names in common."""
    need_same_names(one, other)
    cells = cells_of(one, other)
    return tuple(sorted([(cell[0], cell[1], cells[cell]) for cell in cells]))


def pairs_within(sizes):
    """How many pairs lie within groups of these sizes."""
    return sum([many * (many - 1) // 2 for many in sizes])


def counts_of(one, other):
    """As pair_counts, of parts that are known to be right."""
    both = pairs_within(list(cells_of(one, other).values()))
    ones = pairs_within([len(group) for group in one])
    others = pairs_within([len(group) for group in other])
    every = pairs_within([len(homes_of(one))])
    return both, ones - both, others - both, every - ones - others + both


def pair_counts(one, other):
    """How many pairs are one in both, in the one alone, in the other alone, two in both."""
    need_same_names(one, other)
    return counts_of(one, other)


def unlike_pairs(one, other):
    """Ascending, the pairs that are one in one of both alone."""
    need_same_names(one, other)
    homes, others = homes_of(one), homes_of(other)
    names = sorted(homes)
    pairs = [(names[i], names[j]) for i in range(len(names)) for j in range(i + 1, len(names))]
    return tuple([(a, b) for a, b in pairs if (homes[a] == homes[b]) != (others[a] == others[b])])


def behind_move(parts, name, home, group):
    """The parts with a name out of its group, in another one or, for -1, alone."""
    left = [tuple([thing for thing in row if thing != name]) for row in parts]
    if group == -1:
        left.append((name,))
    else:
        left[group] = tuple(sorted(left[group] + (name,)))
    if len(parts[home]) == 1:
        del left[home]
    return tuple(sorted(left))


class Pairs:
    """Two parts of the same names, and how many pairs they answer alike, kept along moves."""

    def __init__(self, one, other):
        need_same_names(one, other)
        self.one = one
        self.other = other
        self.counts = counts_of(one, other)
        self._homes = homes_of(one)

    def move_name(self, name, group):
        """Puts a name of the other into its group of a number, or for -1 into a new one."""
        key = tuple(name) if is_name(name) else None
        if key not in self._homes:
            raise NoRecord(name)
        if not is_whole(group) or not -1 <= group < len(self.other):
            raise InvalidIndex(-1)
        home = [at for at, row in enumerate(self.other) if key in row][0]
        if group == home:
            return
        old = self.beside(key, self.other[home])
        new = (0, 0) if group == -1 else self.beside(key, self.other[group])
        both, ones, others, none = self.counts
        self.counts = (both - old[0] + new[0], ones + old[0] - new[0], others - old[1] + new[1], none + old[1] - new[1])
        self.other = behind_move(self.other, key, home, group)

    def beside(self, name, group):
        """How many other names of a group are with this one in the one, and how many aren't."""
        homes = [self._homes[thing] for thing in group if thing != name]
        alike = homes.count(self._homes[name])
        return alike, len(homes) - alike
