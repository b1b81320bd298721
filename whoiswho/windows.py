"""Which sums turn when a rule changes, and whether two rules say the same ([17], [18])."""

from whoiswho.comparing import is_binary
from whoiswho.errors import Refused
from whoiswho.grounds import all_rows
from whoiswho.plain import is_tuple_of, same_value
from whoiswho.rules import are_taken, comparers_of, distances_of, fields_apart, need_rule, sum_of, verdicts_at, word_of


def need_alike_fields(one, other, many):
    """Two rules whose fields, as many, are alike in so many of their first things."""
    need_rule(one)
    need_rule(other)
    if len(one[0]) != len(other[0]):
        raise Refused(-1)
    for place, field in enumerate(one[0]):
        if field[:many] != other[0][place][:many]:
            raise Refused(place)


def change_window(elder, newer):
    """(least, greatest) sum by the elder rule of rows that are a link by one rule alone, or None."""
    need_alike_fields(elder, newer, 3)
    turned = [row for row in all_rows(elder) if (word_of(elder, row) == "link") != (word_of(newer, row) == "link")]
    sums = [sum_of(elder, row) for row in turned]
    return (min(sums), max(sums)) if len(sums) > 0 else None


def telling_distances(one, other, place):
    """The least distance of each stretch between both rules' limits of a field; None ahead."""
    comparer, like, near, _ = one[0][place]
    _, others_like, others_near, _ = other[0][place]
    numbers = sorted({limit + 1 for limit in (-1, like, near, others_like, others_near)})
    return [None] + [number for number in numbers if number <= 1 or not is_binary(comparer)]


def telling_rows(one, other):
    """All rows of such distances, the least row first."""
    rows = [()]
    for place in range(len(one[0])):
        numbers = telling_distances(one, other, place)
        rows = [row + (number,) for row in rows for number in numbers]
    return rows


def are_unlike_at(one, other, distances):
    """Whether two rules say unlike words of records that are so far apart."""
    return word_of(one, verdicts_at(one, distances)) != word_of(other, verdicts_at(other, distances))


def alike_paper(one, other):
    """As rules_paper, of rules that are known to be right."""
    for row in telling_rows(one, other):
        if are_unlike_at(one, other, row):
            first, second = fields_apart(one, row)
            return ("unlike", row, first, second)
    return ("alike",)


def rules_paper(one, other):
    """("alike",), or ("unlike", distances, first, second): two records of which two rules say unlike words."""
    need_alike_fields(one, other, 1)
    return alike_paper(one, other)


def rules_hold(one, other, value):
    """Whether any value is ("alike",), rightly, or any two records of which the words are unlike."""
    need_alike_fields(one, other, 1)
    if is_tuple_of(value, 1):
        return alike_paper(one, other) == value
    if not is_tuple_of(value, 4) or value[0] != "unlike":
        return False
    _, distances, first, second = value
    if not are_taken(comparers_of(one), first) or not are_taken(comparers_of(one), second):
        return False
    told = distances_of(one, first, second)
    return same_value(distances, told) and are_unlike_at(one, other, told)
