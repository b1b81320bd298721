"""Rows of words and the tables of rules that lead them to their forms ([6])."""

from whoiswho.errors import InvalidRow, InvalidSteps, InvalidTable
from whoiswho.plain import is_below, is_number, is_row_of, is_sequence

WORD_SIGNS = "abcdefghijklmnopqrstuvwxyz0123456789"
MOST_RULES = 12


def is_word(value):
    if not isinstance(value, str) or value == "":
        return False
    return all([sign in WORD_SIGNS for sign in value])


def is_row(value):
    return is_sequence(value) and all([is_word(word) for word in value])


def need_row(row):
    """The row as a tuple."""
    if not is_sequence(row):
        raise InvalidRow(-1)
    for at, word in enumerate(row):
        if not is_word(word):
            raise InvalidRow(at)
    return tuple(row)


def row_size(row):
    """What makes a row less than another one: by words, then by signs, then by words ascending."""
    return len(row), sum([len(word) for word in row]), tuple(row)


def is_rule(value):
    if not is_row_of(value, 2) or not is_row(value[0]) or not is_row(value[1]):
        return False
    return len(value[1]) > 0 and row_size(value[1]) < row_size(value[0])


def need_table(table):
    """The table as a tuple of pairs of tuples."""
    if not is_sequence(table) or len(table) > MOST_RULES:
        raise InvalidTable(-1)
    rules = []
    lefts = {}
    for at, rule in enumerate(table):
        if not is_rule(rule):
            raise InvalidTable(at)
        left = tuple(rule[0])
        if left in lefts:
            raise InvalidTable(at)
        lefts[left] = True
        rules.append((left, tuple(rule[1])))
    return tuple(rules)


def stands_at(row, place, left):
    return row[place:place + len(left)] == left


def places_in(rules, row):
    """All steps of a row, ascending, of rules that are known to be right."""
    steps = []
    for place in range(len(row)):
        for rule in range(len(rules)):
            if stands_at(row, place, rules[rule][0]):
                steps.append((place, rule))
    return tuple(steps)


def first_place(rules, row):
    """The first step of a row, or None if no left stands in it."""
    for place in range(len(row)):
        for rule in range(len(rules)):
            if stands_at(row, place, rules[rule][0]):
                return place, rule
    return None


def row_behind(rules, row, step):
    """The row behind one step that can be done in it."""
    place, rule = step
    left, right = rules[rule]
    return row[:place] + right + row[place + len(left):]


def row_places(table, row):
    """All steps (place, rule) that can be done in the row, ascending."""
    rules = need_table(table)
    return places_in(rules, need_row(row))


def steps_end(table, row, steps):
    """The row behind steps one after another."""
    rules = need_table(table)
    here = need_row(row)
    if not is_sequence(steps):
        raise InvalidSteps(-1)
    for at, step in enumerate(steps):
        if not is_row_of(step, 2) or not is_number(step[0]) or not is_below(step[1], len(rules)):
            raise InvalidSteps(at)
        if not stands_at(here, step[0], rules[step[1]][0]):
            raise InvalidSteps(at)
        here = row_behind(rules, here, step)
    return here


def row_form(table, row):
    """The row behind the first step again and again, until no left stands in it."""
    rules = need_table(table)
    return form_of(rules, need_row(row))


def form_of(rules, row):
    """As row_form, of a table and a row that are known to be right."""
    here = row
    step = first_place(rules, here)
    while step is not None:
        here = row_behind(rules, here, step)
        step = first_place(rules, here)
    return here


def meets_at(one, other, shift):
    """Whether two lefts, the other from the shift on, have words in common and agree on them."""
    begin = max(0, shift)
    end = min(len(one), shift + len(other))
    return begin < end and one[begin:end] == other[begin - shift:end - shift]


def are_apart(rules, one, other):
    """Whether the lefts of two rules can't stand in a row with a word in common."""
    left, right = rules[one][0], rules[other][0]
    for shift in range(1 - len(right), len(left)):
        if (one != other or shift != 0) and meets_at(left, right, shift):
            return False
    return True


def lone_rules(rules):
    """Whether each rule's left can't have a word in common with any standing left."""
    many = len(rules)
    return [all([are_apart(rules, one, other) for other in range(many)]) for one in range(many)]


def steps_to_try(steps, lone):
    """The steps that lead to all forms: one of a lone rule is enough."""
    # No other step can spoil a lone rule's left, so on each way it is done at some
    # time, and it may as well be done at once: this spares most of the rows between.
    for step in steps:
        if lone[step[1]]:
            return (step,)
    return steps


def all_forms(table, row):
    """Ascending, all rows without a left to which steps in any order lead."""
    rules = need_table(table)
    start = need_row(row)
    lone = lone_rules(rules)
    waiting, seen, ends = [start], {start: True}, []
    while waiting:
        here = waiting.pop()
        steps = places_in(rules, here)
        if len(steps) == 0:
            ends.append(here)
        for step in steps_to_try(steps, lone):
            behind = row_behind(rules, here, step)
            if behind not in seen:
                seen[behind] = True
                waiting.append(behind)
    return tuple(sorted(ends))


def longest_rule(rules, row, place):
    """The rule with the longest left that stands at a place, or None."""
    found = None
    for rule in range(len(rules)):
        left = rules[rule][0]
        if stands_at(row, place, left) and (found is None or len(left) > len(rules[found][0])):
            found = rule
    return found


def one_pass(table, row):
    """The row gone through once from the left, the longest left's right put for it."""
    rules = need_table(table)
    words = need_row(row)
    out = []
    place = 0
    while place < len(words):
        rule = longest_rule(rules, words, place)
        if rule is None:
            out.append(words[place])
            place += 1
        else:
            out.extend(rules[rule][1])
            place += len(rules[rule][0])
    return tuple(out)
