"""One value told from the values of several sources, and short forms of it ([47], [48])."""

from whoiswho.errors import InvalidRule, InvalidSources, InvalidSummary, Refused
from whoiswho.plain import in_tuples, is_name, is_name_tuple, is_number, is_rising, is_row_of, is_sequence
from whoiswho.plain import is_tuple_of, is_whole

PLAIN_RULES = ("newest", "eldest", "most", "all")


def value_kind(value):
    """The kind of a value that a source may tell, or "" for any other value."""
    if isinstance(value, str):
        return "string"
    if is_whole(value):
        return "integer"
    if is_sequence(value) and all([isinstance(text, str) for text in value]):
        return "strings"
    return ""


def is_source(value):
    if not is_row_of(value, 3) or not is_name(value[0]) or not is_name(value[1]):
        return False
    return value[2] is None or value_kind(value[2]) != ""


def need_sources(sources):
    """The sources as tuples."""
    if not is_sequence(sources):
        raise InvalidSources(-1)
    told, seen = [], {}
    kinds = {}
    for at, source in enumerate(sources):
        if not is_source(source) or tuple(source[0]) in seen:
            raise InvalidSources(at)
        if source[2] is not None:
            kinds[value_kind(source[2])] = True
        if len(kinds) > 1:
            raise InvalidSources(at)
        seen[tuple(source[0])] = True
        told.append(in_tuples(source))
    return tuple(told)


def need_rule(rule):
    """(word, row) of a value rule; the row is () but for "houses"."""
    if not is_sequence(rule) or len(rule) == 0 or not isinstance(rule[0], str):
        raise InvalidRule(-1)
    if len(rule) == 1 and rule[0] in PLAIN_RULES:
        return rule[0], ()
    if len(rule) != 2 or rule[0] != "houses" or not is_sequence(rule[1]):
        raise InvalidRule(-1)
    if not all([is_number(house) for house in rule[1]]) or not is_rising(sorted(rule[1])):
        raise InvalidRule(-1)
    return rule[0], tuple(rule[1])


def telling(sources):
    """The sources that tell something."""
    return [source for source in sources if source[2] is not None]


def names_of(sources):
    """Ascending, the names of sources."""
    return tuple(sorted([source[0] for source in sources]))


def names_by_values(sources):
    """For each value that is told, ascending, (value, names of those that tell it)."""
    names = {}
    for name, _, value in sources:
        names.setdefault(value, []).append(name)
    return [(value, tuple(sorted(names[value]))) for value in sorted(names)]


def house_place(row, house):
    """How far behind a house stands in a row; those that it lacks stand behind all others."""
    return row.index(house) if house in row else len(row)


def foremost_first(rule, sources):
    """The sources in the order in which a rule of one foremost source goes by."""
    word, row = rule
    newest = [(rank, name, value) for name, rank, value in sources]
    ordered = sorted(newest, key=lambda source: (source[0], source[1]))
    if word != "eldest":
        ordered = list(reversed(ordered))
    if word == "houses":
        places = [(house_place(row, source[1][0]), at) for at, source in enumerate(ordered)]
        ordered = [ordered[at] for _, at in sorted(places)]
    return [(name, rank, value) for rank, name, value in ordered]


def most_told(rows):
    """The first of (value, names) with the most names."""
    return min([(-len(names), value) for value, names in rows])[1]


def value_told(rule, sources):
    """As told_value, of a rule and sources that are known to be right."""
    told = telling(sources)
    rows = names_by_values(told)
    if rule[0] == "all":
        return tuple([value for value, _ in rows]), names_of(told)
    if len(told) == 0:
        return (None, ())
    value = most_told(rows) if rule[0] == "most" else foremost_first(rule, told)[0][2]
    return value, names_of([source for source in told if source[2] == value])


def told_value(rule, sources):
    """(value, names): what the rule makes of the sources, and who tells it."""
    right = need_rule(rule)
    return value_told(right, need_sources(sources))


def struck_foremost(rule, told):
    """The names of all that tell the foremost value ahead of the first that tells another one."""
    ordered = foremost_first(rule, told)
    names = []
    for name, _, value in ordered:
        if value != ordered[0][2]:
            break
        names.append(name)
    return tuple(sorted(names))


def struck_most(rows):
    """So many names of the value that most tell that it is behind another one."""
    first = most_told(rows)
    names = [row[1] for row in rows if row[0] == first][0]
    needed = [len(names)]
    for value, others in rows:
        if value != first:
            needed.append(len(names) - len(others) + (1 if first < value else 0))
    return names[:min(needed)]


def fewest_struck(rule, sources):
    """Fewest names without whose sources another value is told, None if nothing is told."""
    right = need_rule(rule)
    told = telling(need_sources(sources))
    if len(told) == 0:
        return None
    rows = names_by_values(told)
    if right[0] == "all":
        fewest = min([len(names) for _, names in rows])
        return [names for _, names in rows if len(names) == fewest][0]
    if right[0] == "most":
        return struck_most(rows)
    return struck_foremost(right, told)


def summary_of(sources):
    """The summary of sources that all tell something."""
    marks = {}
    for name, rank, value in sources:
        marks.setdefault(value, []).append((name, rank))
    return tuple([(value, tuple(sorted(marks[value]))) for value in sorted(marks)])


def sum_up(sources):
    """The summary of sources: for each value that is told (value, marks of those that tell it)."""
    return summary_of(telling(need_sources(sources)))


def are_marks(value):
    """Whether any value is an ascending tuple of one or more (name, rank)."""
    if not isinstance(value, tuple) or len(value) == 0:
        return False
    for mark in value:
        if not is_tuple_of(mark, 2) or not is_name_tuple(mark[0]) or not is_name_tuple(mark[1]):
            return False
    return is_rising(value)


def is_summary_row(value):
    if not is_tuple_of(value, 2) or isinstance(value[0], list) or value_kind(value[0]) == "":
        return False
    return are_marks(value[1])


def is_summary(value):
    if not isinstance(value, tuple) or not all([is_summary_row(row) for row in value]):
        return False
    if any([value_kind(row[0]) != value_kind(value[0][0]) for row in value]):
        return False
    names = sorted([mark[0] for row in value for mark in row[1]])
    return is_rising([row[0] for row in value]) and is_rising(names)


def summed_sources(summary):
    """The sources of a summary that must be one."""
    if not is_summary(summary):
        raise InvalidSummary(-1)
    return [(name, rank, value) for value, marks in summary for name, rank in marks]


def summary_value(rule, summary):
    """What the rule makes of the sources of a summary, as told_value."""
    right = need_rule(rule)
    return value_told(right, summed_sources(summary))


def joined_summaries(one, other):
    """The summary of the sources of both."""
    first, second = summed_sources(one), summed_sources(other)
    names = [source[0] for source in first]
    both = sorted([source[0] for source in second if source[0] in names])
    if len(both) > 0:
        raise Refused(both[0])
    if len(sorted({value_kind(source[2]) for source in first + second})) > 1:
        raise Refused(-1)
    return summary_of(first + second)


def without_source(summary, name):
    """The summary without the source of a name."""
    sources = summed_sources(summary)
    told = in_tuples(name)
    left = [source for source in sources if source[0] != told or not is_name(told)]
    if len(left) == len(sources):
        raise Refused(told)
    return summary_of(left)
