"""Which fields catch all links of a rule, and records found by what they put there ([22], [23])."""

from whoiswho.choices import all_lots
from whoiswho.comparing import is_binary, kept_value, takes
from whoiswho.errors import InvalidField, InvalidRecord, InvalidValue, NoRecord, Refused
from whoiswho.filters import keys_of
from whoiswho.plain import is_below, is_row_of, is_sequence, is_tuple_of
from whoiswho.records import need_name
from whoiswho.rules import are_taken, comparers_of, need_rule, record_pair, verdict_row, verdicts_of, weight_of, word_of


def need_places(rule, fields):
    """Fields' places as a tuple, ascending; the rule is right."""
    if not is_sequence(fields):
        raise InvalidField(-1)
    for at, place in enumerate(fields):
        if not is_below(place, len(rule[0])) or (at > 0 and place <= fields[at - 1]):
            raise InvalidField(at)
    return tuple(fields)


def taken_verdicts(rule, told, place):
    """The verdicts that a tree takes of a field: of a told one those by which a pair does not meet."""
    possible = verdicts_of(rule[0][place])
    if place in told:
        return [verdict for verdict in possible if verdict in ("lacking", "unlike")]
    return list(possible)


def is_all_below(rule, told, verdicts):
    """Whether all sums behind the first verdicts are below the least one."""
    fields = rule[0]
    total = sum([weight_of(fields[place], verdict) for place, verdict in enumerate(verdicts)])
    for place in range(len(verdicts), len(fields)):
        total += max([weight_of(fields[place], verdict) for verdict in taken_verdicts(rule, told, place)])
    return total < rule[1]


def is_barred_by(bar, verdicts):
    """Whether the first verdicts have all of a bar."""
    return all([place < len(verdicts) and verdicts[place] == verdict for place, verdict in bar])


def searched(rule, told, verdicts):
    """("missed", row), a link behind the first verdicts, or ("caught", tree)."""
    if is_all_below(rule, told, verdicts):
        return ("caught", ("below",))
    barred = [at for at, bar in enumerate(rule[2]) if is_barred_by(bar, verdicts)]
    if len(barred) > 0:
        return ("caught", ("barred", barred[0]))
    if len(verdicts) == len(rule[0]):
        return ("missed", verdicts)
    trees = []
    for verdict in taken_verdicts(rule, told, len(verdicts)):
        found = searched(rule, told, verdicts + (verdict,))
        if found[0] == "missed":
            return found
        trees.append(found[1])
    return ("caught", ("parted", tuple(trees)))


def fields_paper(rule, fields):
    """("missed", one, other), a link that meets in none of these fields, or ("caught", tree)."""
    need_rule(rule)
    found = searched(rule, need_places(rule, fields), ())
    if found[0] == "caught":
        return found
    one, other = record_pair(rule, found[1])
    return ("missed", one, other)


def tree_holds(rule, told, verdicts, tree):
    """Whether any value is a tree that shows no link behind the first verdicts."""
    if is_tuple_of(tree, 1):
        return tree[0] == "below" and is_all_below(rule, told, verdicts)
    if not is_tuple_of(tree, 2):
        return False
    if tree[0] == "barred":
        return is_below(tree[1], len(rule[2])) and is_barred_by(rule[2][tree[1]], verdicts)
    if tree[0] != "parted" or len(verdicts) == len(rule[0]):
        return False
    taken = taken_verdicts(rule, told, len(verdicts))
    if not is_tuple_of(tree[1], len(taken)):
        return False
    return all([tree_holds(rule, told, verdicts + (verdict,), tree[1][at]) for at, verdict in enumerate(taken)])


def is_missed(rule, told, one, other):
    """Whether any values are two records' fields that a rule links and that meet in none of the told ones."""
    if not are_taken(comparers_of(rule), one) or not are_taken(comparers_of(rule), other):
        return False
    row = verdict_row(rule, one, other)
    return word_of(rule, row) == "link" and not any([row[place] in ("like", "near") for place in told])


def fields_hold(rule, fields, value):
    """Whether any value is a paper of these fields, any such tree, any such records."""
    need_rule(rule)
    told = need_places(rule, fields)
    if is_tuple_of(value, 3) and value[0] == "missed":
        return is_missed(rule, told, value[1], value[2])
    return is_tuple_of(value, 2) and value[0] == "caught" and tree_holds(rule, told, (), value[1])


def places_keyed(rule):
    """As keyed_fields, of a rule that is known to be right."""
    return [place for place, field in enumerate(rule[0]) if field[2] == 0 or not is_binary(field[0])]


def keyed_fields(rule):
    """Ascending, the places of the fields that have keys."""
    need_rule(rule)
    return tuple(places_keyed(rule))


def fewest_fields(rule):
    """The fewest keyed fields that catch all links, the first such, or None."""
    need_rule(rule)
    keyed = places_keyed(rule)
    for lot in [()] + all_lots(len(keyed)):
        fields = tuple([keyed[number] for number in lot])
        if searched(rule, fields, ())[0] == "caught":
            return fields
    return None


def need_values(rule, values):
    """A record's values in tuples, one for each field of a right rule."""
    if not is_row_of(values, len(rule[0])):
        raise InvalidRecord(0)
    for at, field in enumerate(rule[0]):
        if not takes(field[0], values[at]):
            raise InvalidValue(0)
    return tuple([kept_value(value) for value in values])


class Index:
    """Records by the keys that they put in some fields of a rule."""

    def __init__(self, rule, fields):
        need_rule(rule)
        told = need_places(rule, fields)
        keyed = places_keyed(rule)
        for at, place in enumerate(told):
            if place not in keyed:
                raise InvalidField(at)
        self._rule = rule
        self._fields = told
        self._values = {}
        self._holders = {}

    def put_record(self, name, values):
        """A record that comes."""
        known, told = need_name(name), need_values(self._rule, values)
        if known in self._values:
            raise Refused(-1)
        self._values[known] = told
        for key in self.keys_by(told, False):
            self._holders.setdefault(key, {})[known] = True

    def take_record(self, name):
        """A record that goes."""
        known = need_name(name)
        if known not in self._values:
            raise NoRecord(name)
        for key in self.keys_by(self._values[known], False):
            del self._holders[key][known]
        del self._values[known]

    def likely_names(self, values):
        """Ascending, the names of the records that put a key which these values ask."""
        found = {}
        for key in self.keys_by(need_values(self._rule, values), True):
            found.update(self._holders.get(key, {}))
        return tuple(sorted(found))

    def keys_by(self, values, asked):
        """The keys that values put, or ask if they are asked, each with its field's place."""
        keys = []
        for place in self._fields:
            comparer, _, near, _ = self._rule[0][place]
            keys.extend([(place, key) for key in keys_of(comparer, near, values[place], asked)])
        return keys
