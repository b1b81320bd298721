"""Rules of likeness: verdicts of fields, their weights, and what is barred ([15])."""

from whoiswho.comparing import distance_of, is_binary, is_comparer, takes
from whoiswho.errors import InvalidRecord, InvalidRule, InvalidValue, InvalidVerdicts
from whoiswho.plain import has_list, is_below, is_number, is_rising, is_row_of, is_tuple_of, is_whole

VERDICTS = ("lacking", "like", "near", "unlike")
MOST_FIELDS = 12


def is_verdict(value):
    return isinstance(value, str) and value in VERDICTS


def is_field(value):
    """Whether any value is (comparer, like, near, weights), tuples alone."""
    if not is_tuple_of(value, 4):
        return False
    comparer, like, near, weights = value
    if not is_comparer(comparer) or not is_number(like) or not is_number(near) or like > near:
        return False
    return is_tuple_of(weights, len(VERDICTS)) and all([is_whole(weight) for weight in weights])


def are_fields(value):
    if not isinstance(value, tuple) or not 1 <= len(value) <= MOST_FIELDS:
        return False
    return all([is_field(field) for field in value])


def is_bar(value, many):
    """Whether any value is a lot of pairs (field's place, verdict), one or more, one a place."""
    if not isinstance(value, tuple) or len(value) == 0:
        return False
    if not all([is_tuple_of(pair, 2) and is_below(pair[0], many) and is_verdict(pair[1]) for pair in value]):
        return False
    return is_rising([pair[0] for pair in value])


def need_rule(value):
    """Any value, if it is a rule (fields, least, bars)."""
    if not is_tuple_of(value, 3):
        raise InvalidRule(-1)
    fields, least, bars = value
    if not are_fields(fields):
        raise InvalidRule(0)
    if not is_whole(least):
        raise InvalidRule(1)
    if not isinstance(bars, tuple) or not all([is_bar(bar, len(fields)) for bar in bars]) or not is_rising(bars):
        raise InvalidRule(2)
    return value


def verdict_distance(field, verdict):
    """The least distance that has a verdict, None for "lacking" and for one that no values have."""
    comparer, like, near, _ = field
    least = {"like": 0, "near": like + 1, "unlike": near + 1}.get(verdict, None)
    if least is None or (verdict == "near" and like == near):
        return None
    if is_binary(comparer) and least > 1:
        return None
    return least


def verdicts_of(field):
    """As possible_verdicts, of a field that is known to be right."""
    return tuple([word for word in VERDICTS if word == "lacking" or verdict_distance(field, word) is not None])


def possible_verdicts(field):
    """The verdicts that some two values of a field have."""
    if not is_field(field):
        raise InvalidRule(0)
    return verdicts_of(field)


def need_verdicts(rule, row):
    """Raises the errors of a rule and a row of its fields' verdicts."""
    fields = need_rule(rule)[0]
    if not is_row_of(row, len(fields)):
        raise InvalidVerdicts(-1)
    for at, field in enumerate(fields):
        if not is_verdict(row[at]) or row[at] not in verdicts_of(field):
            raise InvalidVerdicts(at)


def verdict_place(verdict):
    """The place of a verdict's weight among those of a field."""
    return VERDICTS.index(verdict)


def weight_of(field, verdict):
    return field[3][verdict_place(verdict)]


def sum_of(rule, row):
    """As row_sum, of a row that is known to be right."""
    return sum([weight_of(field, row[at]) for at, field in enumerate(rule[0])])


def word_of(rule, row):
    """As row_word, of a row that is known to be right."""
    if any([all([row[place] == verdict for place, verdict in bar]) for bar in rule[2]]):
        return "barred"
    return "link" if sum_of(rule, row) >= rule[1] else "none"


def row_sum(rule, row):
    """The sum of the weights of a row of verdicts."""
    need_verdicts(rule, row)
    return sum_of(rule, row)


def row_word(rule, row):
    """What a rule says of a row of verdicts: "barred", "link" or "none"."""
    need_verdicts(rule, row)
    return word_of(rule, row)


def takes_all(comparers, value):
    """Whether any value is one value for each of some comparers, each taken by it."""
    if not is_row_of(value, len(comparers)):
        return False
    return all([takes(comparer, value[at]) for at, comparer in enumerate(comparers)])


def are_taken(comparers, value):
    """As takes_all, of tuples alone."""
    return not has_list(value) and takes_all(comparers, value)


def comparers_of(rule):
    """For each field of a rule its comparer."""
    return tuple([field[0] for field in rule[0]])


def need_pair(rule, one, other):
    """Raises the errors of a rule and the fields of two records."""
    fields = need_rule(rule)[0]
    if not is_row_of(one, len(fields)):
        raise InvalidRecord(0)
    if not is_row_of(other, len(fields)):
        raise InvalidRecord(1)
    for at, field in enumerate(fields):
        if not takes(field[0], one[at]):
            raise InvalidValue(0)
        if not takes(field[0], other[at]):
            raise InvalidValue(1)


def distances_of(rule, one, other):
    """As field_distances, of fields that are known to be right."""
    return tuple([distance_of(field[0], one[at], other[at]) for at, field in enumerate(rule[0])])


def verdict_at(field, distance):
    """The verdict of two values of a field that are so far apart."""
    _, like, near, _ = field
    if distance is None:
        return "lacking"
    if distance <= like:
        return "like"
    return "near" if distance <= near else "unlike"


def verdicts_at(rule, distances):
    """The row of verdicts of records' fields that are so far apart."""
    return tuple([verdict_at(field, distances[at]) for at, field in enumerate(rule[0])])


def field_distances(rule, one, other):
    """For each field how far two records are apart, None where one is lacking."""
    need_pair(rule, one, other)
    return distances_of(rule, one, other)


def verdict_row(rule, one, other):
    """For each field the verdict of two records."""
    need_pair(rule, one, other)
    return verdicts_at(rule, distances_of(rule, one, other))


def pair_likeness(rule, one, other):
    """(word, sum, grounds) of two records, the grounds for each field (distance, verdict, weight)."""
    need_pair(rule, one, other)
    distances = distances_of(rule, one, other)
    row = verdicts_at(rule, distances)
    grounds = [(distances[at], row[at], weight_of(field, row[at])) for at, field in enumerate(rule[0])]
    return word_of(rule, row), sum_of(rule, row), tuple(grounds)


def values_apart(comparer, distance):
    """Two values that a comparer finds so far apart, which it can."""
    if distance is None:
        return None, None
    if comparer == "apart":
        return 0, distance
    if comparer == "lists":
        return (), tuple(["a" * many for many in range(1, distance + 1)])
    if comparer == "shared":
        return ("a",), ("b" if distance > 0 else "a",)
    # The grams of one more letter are one more; one letter more is one deed.
    return "a", "a" * (distance + 1)


def fields_apart(rule, distances):
    """The fields of some two records that are so far apart, which they can be."""
    pairs = [values_apart(field[0], distances[at]) for at, field in enumerate(rule[0])]
    return tuple([pair[0] for pair in pairs]), tuple([pair[1] for pair in pairs])


def record_pair(rule, row):
    """The fields of some two records with just this row of verdicts."""
    need_verdicts(rule, row)
    return fields_apart(rule, [verdict_distance(field, row[at]) for at, field in enumerate(rule[0])])
