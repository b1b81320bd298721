"""Weights that answers teach, or heaps of answers that show there are none ([18]).

Each answer asks of a number for each place and verdict that its sum be 1 at least ("same") or -1 at most ("not").
These are solved in whole numbers: a row of numbers tells that the sum of them, each times its variable, is 0. The
variables are by how much each answer keeps its bound, then the weights, and 1. A row tells one variable, by a number
below 0 in this row and by 0 in all others.
"""

from whoiswho.errors import InvalidAnswers
from whoiswho.plain import is_number, is_row_of, is_sequence, is_tuple_of, is_whole
from whoiswho.rules import is_verdict, verdict_place

MOST_ANSWERS = 12
MANY_VERDICTS = 4


def is_answer(value):
    """Whether a value is (verdicts, word), one verdict or more."""
    if not is_row_of(value, 2) or not is_sequence(value[0]) or len(value[0]) == 0:
        return False
    if not all([is_verdict(verdict) for verdict in value[0]]):
        return False
    return isinstance(value[1], str) and value[1] in ("same", "not")


def need_answers(answers):
    """Raises the error of the first that is no answer, or has not as many verdicts as the first one."""
    if not is_sequence(answers) or not 1 <= len(answers) <= MOST_ANSWERS:
        raise InvalidAnswers(-1)
    for at, answer in enumerate(answers):
        if not is_answer(answer) or len(answer[0]) != len(answers[0][0]):
            raise InvalidAnswers(at)


def answer_row(answers, at):
    """The row of an answer; it tells by how much the answer keeps its bound."""
    verdicts, word = answers[at]
    sign = 1 if word == "same" else -1
    row = [-1 if place == at else 0 for place in range(len(answers))]
    for verdict in verdicts:
        row.extend([sign if place == verdict_place(verdict) else 0 for place in range(MANY_VERDICTS)])
    return row + [-1]


def common_divisor(numbers):
    """The greatest number that divides all of some integers, not all of them 0."""
    common = 0
    for number in numbers:
        rest = abs(number)
        while rest > 0:
            common, rest = rest, common % rest
    return common


def lowest_terms(row):
    common = common_divisor(row)
    return [number // common for number in row]


def without(row, pivot, column):
    """A row with so much of the pivot that its column is 0; the pivot's is below 0."""
    return lowest_terms([pivot[column] * -number + row[column] * pivot[at] for at, number in enumerate(row)])


def pivoted(rows, at, column):
    """The rows when that at this place tells the column's variable."""
    pivot = rows[at] if rows[at][column] < 0 else [-number for number in rows[at]]
    return [pivot if place == at else without(row, pivot, column) for place, row in enumerate(rows)]


def weights_told(rows, many):
    """(rows, told): rows that tell as many weights as can be; for each row the column of its variable."""
    told = list(range(many))
    for column in range(many, len(rows[0]) - 1):
        free = [at for at, row in enumerate(rows) if told[at] < many and row[column] != 0]
        if len(free) > 0:
            rows = pivoted(rows, free[0], column)
            told[free[0]] = column
    return rows, told


def least_short(rows, told, many):
    """The place of the row of the least answer that does not keep its bound, or None."""
    short = [(told[at], at) for at, row in enumerate(rows) if told[at] < many and row[-1] < 0]
    return min(short)[1] if len(short) > 0 else None


def solved(answers):
    """(rows, told, at): rows by which all bounds are kept, at None; or at is that of one which shows heaps."""
    many = len(answers)
    rows, told = weights_told([answer_row(answers, at) for at in range(many)], many)
    at = least_short(rows, told, many)
    # The least answer each time, both ways: so no lot of told variables comes again.
    while at is not None:
        helpful = [column for column in range(many) if rows[at][column] > 0]
        if len(helpful) == 0:
            break
        rows = pivoted(rows, at, helpful[0])
        told[at] = helpful[0]
        at = least_short(rows, told, many)
    return rows, told, at


def told_weights(rows, told, first):
    """Whole weights, for the columns from the first on, where all that the rows don't tell is 0."""
    places = [at for at, column in enumerate(told) if column >= first]
    common = 1
    for at in places:
        scale = -rows[at][told[at]]
        common = common * scale // common_divisor([common, scale])
    weights = {told[at]: rows[at][-1] * common // -rows[at][told[at]] for at in places}
    return [weights.get(column, 0) for column in range(first, len(rows[0]) - 1)]


def taught_paper(answers):
    """("weights", weights, least) by which the answers are just so, or ("heaps", counts)."""
    need_answers(answers)
    rows, told, at = solved(answers)
    if at is not None:
        return ("heaps", tuple([-number for number in rows[at][:len(answers)]]))
    weights = told_weights(rows, told, len(answers))
    begins = [place * MANY_VERDICTS for place in range(len(answers[0][0]))]
    return ("weights", tuple([tuple(weights[begin:begin + MANY_VERDICTS]) for begin in begins]), 0)


def are_right_weights(answers, weights, least):
    """Whether any values are weights and a least sum by which the answers are just so."""
    if not is_tuple_of(weights, len(answers[0][0])) or not is_whole(least):
        return False
    for row in weights:
        if not is_tuple_of(row, MANY_VERDICTS) or not all([is_whole(weight) for weight in row]):
            return False
    for verdicts, word in answers:
        told = sum([weights[place][verdict_place(verdict)] for place, verdict in enumerate(verdicts)])
        if (told >= least) != (word == "same"):
            return False
    return True


def are_heaps(answers, counts):
    """Whether any value is numbers, not all 0, by which "same" and "not" are as many for all places and verdicts."""
    if not is_tuple_of(counts, len(answers)) or not all([is_number(number) for number in counts]):
        return False
    gaps = {}
    for at, (verdicts, word) in enumerate(answers):
        signed = counts[at] if word == "same" else -counts[at]
        for place, verdict in enumerate(verdicts):
            gaps[(place, verdict)] = gaps.get((place, verdict), 0) + signed
    return any([number > 0 for number in counts]) and all([gaps[key] == 0 for key in gaps])


def taught_holds(answers, value):
    """Whether any value is weights or heaps of these answers."""
    need_answers(answers)
    if is_tuple_of(value, 3) and value[0] == "weights":
        return are_right_weights(answers, value[1], value[2])
    if is_tuple_of(value, 2) and value[0] == "heaps":
        return are_heaps(answers, value[1])
    return False
