"""Whether a table leads each row to one form, whatever the order of its steps ([7], [8])."""

from whoiswho.errors import InvalidSteps, Refused
from whoiswho.forms import first_place, form_of, is_row, meets_at, need_table, one_pass, row_behind, row_size, steps_end
from whoiswho.plain import has_list, is_tuple_of


def overlap_row(rules, rule, place, other):
    """The row of two lefts, the other from a place of the first one on, or None if they don't overlap so."""
    left, second = rules[rule][0], rules[other][0]
    if place == 0 and (rule == other or len(second) > len(left)):
        return None
    if not meets_at(left, second, place):
        return None
    return left[:place] + second + left[place + len(second):]


def overlaps_of(rules):
    """As overlap_rows, of a table that is known to be right."""
    found = []
    for rule in range(len(rules)):
        for place in range(len(rules[rule][0])):
            for other in range(len(rules)):
                row = overlap_row(rules, rule, place, other)
                if row is not None:
                    found.append((row, rule, place, other))
    return tuple(sorted(found))


def overlap_rows(table):
    """Ascending, (row, rule, place, other): the rows made of two lefts with a word in common."""
    return overlaps_of(need_table(table))


def steps_from(rules, row, step):
    """(steps, row): a step, and further ones until no left stands, and the row behind them."""
    steps = [step]
    here = row_behind(rules, row, step)
    further = first_place(rules, here)
    while further is not None:
        steps.append(further)
        here = row_behind(rules, here, further)
        further = first_place(rules, here)
    return tuple(steps), here


def paper_of(rules):
    """As form_paper, of a table that is known to be right."""
    papers = []
    for row, rule, place, other in overlaps_of(rules):
        steps, form = steps_from(rules, row, (0, rule))
        others, second = steps_from(rules, row, (place, other))
        if form != second:
            return ("split", row, steps, others)
        papers.append((steps, others))
    return ("one", tuple(papers))


def form_paper(table):
    """("one", papers), steps that lead all overlaps to one row, or ("split", row, steps, steps)."""
    return paper_of(need_table(table))


def row_led_to(rules, row, steps):
    """The row to which any value leads, if it is steps in tuples, or None."""
    if not isinstance(steps, tuple) or has_list(steps):
        return None
    try:
        return steps_end(rules, row, steps)
    except InvalidSteps:
        return None


def overlap_holds(rules, overlap, value):
    """Whether any value is two tuples of steps that lead the overlap's row to one row."""
    row, rule, place, other = overlap
    if not is_tuple_of(value, 2):
        return False
    one, second = row_led_to(rules, row, value[0]), row_led_to(rules, row, value[1])
    if one is None or one != second or len(value[0]) == 0 or len(value[1]) == 0:
        return False
    return value[0][0] == (0, rule) and value[1][0] == (place, other)


def split_holds(rules, row, one, other):
    """Whether any values are a row and steps from it to two unlike rows without a left."""
    if not isinstance(row, tuple) or not is_row(row):
        return False
    first, second = row_led_to(rules, row, one), row_led_to(rules, row, other)
    if first is None or second is None or first == second:
        return False
    return first_place(rules, first) is None and first_place(rules, second) is None


def form_holds(table, value):
    """Whether any value is a paper of the table, any such row and steps."""
    rules = need_table(table)
    if is_tuple_of(value, 4) and value[0] == "split":
        return split_holds(rules, value[1], value[2], value[3])
    if not is_tuple_of(value, 2) or value[0] != "one":
        return False
    overlaps = overlaps_of(rules)
    if not is_tuple_of(value[1], len(overlaps)):
        return False
    return all([overlap_holds(rules, overlap, value[1][at]) for at, overlap in enumerate(overlaps)])


def pieces_of(rules):
    """(words, words): what one pass may go over at once, and what it leaves of it, in rows that show a gap."""
    words = sorted({word for rule in rules for word in rule[0]})
    return list(rules) + [((word,), (word,)) for word in words]


def begun_rows(pieces, left):
    """(row, many): one piece that leaves the left's first so many words at its end, or all of them."""
    begun = []
    for row, out in pieces:
        for place in range(len(out)):
            many = min(len(left), len(out) - place)
            if out[place:place + many] == left[:many]:
                begun.append((row, many))
    return begun


def rows_that_leave(pieces, left):
    """All rows of pieces that leave the left, each piece some word of it."""
    waiting, found = begun_rows(pieces, left), []
    while waiting:
        row, many = waiting.pop()
        if many == len(left):
            found.append(row)
            continue
        for piece, out in pieces:
            further = min(len(left) - many, len(out))
            if out[:further] == left[many:many + further]:
                waiting.append((row + piece, many + further))
    return found


def pass_gap(table):
    """The least row that one pass leads to a row with a left, or None."""
    rules = need_table(table)
    pieces = pieces_of(rules)
    # In the least such row each piece leaves some word of a left that stands behind the pass.
    rows = [row for rule in rules for row in rows_that_leave(pieces, rule[0])]
    # Pieces side by side may be read otherwise than one by one, so each row is gone through.
    gaps = [row for row in rows if first_place(rules, one_pass(rules, row)) is not None]
    if len(gaps) == 0:
        return None
    return min([(row_size(row), row) for row in gaps])[1]


def form_gap(one, other):
    """The least left of both tables to which they give unlike forms, or None."""
    first, second = need_table(one), need_table(other)
    for at, rules in enumerate((first, second)):
        if paper_of(rules)[0] == "split":
            raise Refused(at)
    for left in sorted([rule[0] for rule in first + second], key=row_size):
        if form_of(first, left) != form_of(second, left):
            return left
    return None
