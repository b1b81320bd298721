"""[15]: rules of likeness, verdicts, what a rule says of rows and of two records."""

import itertools
import unittest

from helpers import chance, changed_values, check_ways, has_list, keeps, odd_values, same
from test_comparing import TAKEN
from whoiswho.best import Likes
from whoiswho.comparing import field_distance
from whoiswho.errors import InvalidRecord, InvalidRule, InvalidValue, InvalidVerdicts
from whoiswho.rules import field_distances, need_rule, pair_likeness, possible_verdicts, record_pair, row_sum, row_word
from whoiswho.rules import verdict_row

WORDS = ("lacking", "like", "near", "unlike")
RULE = ((("edits", 0, 2, (0, 9, 5, -9)), ("apart", 1, 1, (-1, 3, 0, -4))), 6, (((0, "near"), (1, "unlike")), ((0, "unlike"),)))
ROWS = [row_sum, row_word, record_pair]
PAIRS = [field_distances, verdict_row, pair_likeness]


def is_int(value, least=None):
    return type(value) is int and (least is None or value >= least)


def plain_field(value):
    return type(value) is tuple and len(value) == 4 and type(value[0]) is str and value[0] in TAKEN \
        and is_int(value[1], 0) and is_int(value[2], 0) and value[1] <= value[2] \
        and type(value[3]) is tuple and len(value[3]) == 4 and all(map(is_int, value[3]))


def plain_bar(value, many):
    if type(value) is not tuple or not value:
        return False
    for pair in value:
        if type(pair) is not tuple or len(pair) != 2 or not is_int(pair[0], 0) or pair[0] >= many:
            return False
        if type(pair[1]) is not str or pair[1] not in WORDS:
            return False
    places = [pair[0] for pair in value]
    return places == sorted(set(places))


def plain_fault(value):
    """What InvalidRule keeps, or None for a rule."""
    if type(value) is not tuple or len(value) != 3:
        return -1
    if type(value[0]) is not tuple or not 1 <= len(value[0]) <= 12 or not all(map(plain_field, value[0])):
        return 0
    if not is_int(value[1]):
        return 1
    if type(value[2]) is not tuple or not all(plain_bar(bar, len(value[0])) for bar in value[2]):
        return 2
    return None if list(value[2]) == sorted(set(value[2])) else 2


def plain_possible(field):
    comparer, like, near, _ = field
    distances = range(2) if comparer in ("exact", "shared") else range(near + 2)
    return tuple(word for word in WORDS if word == "lacking" or word in [plain_verdict(field, far) for far in distances])


def plain_verdict(field, far):
    if far is None:
        return "lacking"
    return "like" if far <= field[1] else "near" if far <= field[2] else "unlike"


def plain_sum(rule, row):
    return sum(dict(zip(WORDS, field[3]))[word] for field, word in zip(rule[0], row))


def plain_word(rule, row):
    if any(all(row[at] == word for at, word in bar) for bar in rule[2]):
        return "barred"
    return "link" if plain_sum(rule, row) >= rule[1] else "none"


def some_field(choice):
    near = choice.randint(0, 3)
    return (choice.choice(sorted(TAKEN)), choice.randint(0, near), near, tuple(choice.randint(-6, 6) for _ in range(4)))


def some_rule(choice, most):
    fields = tuple(some_field(choice) for _ in range(choice.randint(1, most)))
    bars = set()
    for _ in range(choice.randint(0, 2)):
        places = sorted(choice.sample(range(len(fields)), choice.randint(1, len(fields))))
        bars.add(tuple((at, choice.choice(WORDS)) for at in places))
    return (fields, choice.randint(-6, 8), tuple(sorted(bars)))


def some_fields(choice, rule):
    return tuple(choice.choice([None] + TAKEN[field[0]]) for field in rule[0])


class RuleTest(unittest.TestCase):
    def test_need_rule(self):
        choice = chance(15)
        faults = {}
        for _ in range(250):
            rule = some_rule(choice, 5)
            self.assertIs(need_rule(rule), rule)
            for value in changed_values(rule, choice, 12):
                fault = plain_fault(value)
                faults[fault] = faults.get(fault, 0) + 1
                if fault is None:
                    self.assertIs(need_rule(value), value)
                else:
                    keeps(self, InvalidRule, fault, need_rule, value)
        self.assertGreater(min(faults[fault] for fault in (None, -1, 0, 1, 2)), 20)

    def test_wrong_rules_by_hand(self):
        field, other = RULE[0]
        for fields in [(), [field], (field, list(other)), (field,) * 13, (field, ("edit",) + field[1:]), (field, ("edits", 3, 2, field[3])),
                       (field, ("edits", -1, 2, field[3])), (field, ("edits", False, 2, field[3])), (field, field[:3]), None,
                       (field, field + (0,)), (field, ("edits", 0, 2, (0, 1, 2))), (field, ("edits", 0, 2, [0, 1, 2, 3])),
                       (field, ("edits", 0, 2, (0, 1, 2, True))), (field, ("edits", 0, 2, (0, 1, 2, None))), (None, field),
                       (field, (["edits"], 0, 2, field[3])), (field, ("edits", 0, True, field[3])), "ab"]:
            keeps(self, InvalidRule, 0, need_rule, (fields, None, None))
        for least in (None, True, "1", (1,), Likes(1, (), ())):
            keeps(self, InvalidRule, 1, need_rule, (RULE[0], least, None))
        for bars in [None, [], (((0, "like"),), ((0, "like"),)), (((0, "near"),), ((0, "like"),)), ((),), (((0, "like"), (0, "near")),),
                     (((1, "like"), (0, "near")),), (((2, "like"),),), (((-1, "like"),),), (((True, "like"),),), (((0, "Like"),),),
                     (((0, "like", 0),),), (([0, "like"],),), ([(0, "like")],), (((0, None),),), ((0, "like"),), "ab", (3,)]:
            keeps(self, InvalidRule, 2, need_rule, (RULE[0], 0, bars))
        for value in (None, 3, True, list(RULE), RULE[:2], RULE + (0,), "abc", Likes(1, (), ())):
            keeps(self, InvalidRule, -1, need_rule, value)
        # A verdict that no values have may stand in a bar.
        rule = ((("exact", 1, 1, (0, 0, 0, 0)),), 0, (((0, "near"),), ((0, "unlike"),)))
        self.assertIs(need_rule(rule), rule)
        self.assertIs(need_rule((RULE[0] * 6, 0, ()))[2], ())
        for value in odd_values():
            check_ways(self, need_rule, (value,))
            check_ways(self, possible_verdicts, (value,))
            for function in ROWS:
                keeps(self, InvalidRule, -1, function, value, None)
            for function in PAIRS:
                keeps(self, InvalidRule, 0, function, (value, 0, ()), None, None)

    def test_possible_verdicts(self):
        for comparer in TAKEN:
            for near in range(4):
                for like in range(near + 1):
                    field = (comparer, like, near, (0, 0, 0, 0))
                    self.assertTrue(same(possible_verdicts(field), plain_possible(field)))
        self.assertEqual(possible_verdicts(("exact", 0, 0, (0, 0, 0, 0))), ("lacking", "like", "unlike"))
        self.assertEqual(possible_verdicts(("exact", 0, 1, (0, 0, 0, 0))), ("lacking", "like", "near"))
        self.assertEqual(possible_verdicts(("shared", 1, 2, (0, 0, 0, 0))), ("lacking", "like"))
        self.assertEqual(possible_verdicts(("grams", 2, 2, (0, 0, 0, 0))), ("lacking", "like", "unlike"))
        self.assertEqual(possible_verdicts(("edits", 2, 3, (0, 0, 0, 0))), WORDS)
        for value in (None, 3, RULE, RULE[0], list(RULE[0][0]), ("edits", 2, 1, (0, 0, 0, 0))):
            keeps(self, InvalidRule, 0, possible_verdicts, value)


class RowTest(unittest.TestCase):
    def test_all_rows(self):
        choice = chance(151)
        words = {}
        for _ in range(60):
            rule = some_rule(choice, 3)
            for row in itertools.product(*[possible_verdicts(field) for field in rule[0]]):
                word = plain_word(rule, row)
                words[word] = words.get(word, 0) + 1
                self.assertTrue(same(row_sum(rule, row), plain_sum(rule, row)))
                self.assertTrue(same(row_word(rule, list(row)), word))
                one, other = record_pair(rule, row)
                self.assertFalse(has_list((one, other)))
                self.assertEqual((len(one), len(other)), (len(row), len(row)))
                self.assertEqual(verdict_row(rule, one, other), row)
                self.assertEqual(verdict_row(rule, other, one), row)
        self.assertGreater(min(words.values()), 50)

    def test_wrong_rows(self):
        for row in [None, 3, (), ("like",), ("like",) * 3, "ab", True]:
            for function in ROWS:
                keeps(self, InvalidVerdicts, -1, function, RULE, row)
        # No two values of the second field are near.
        for word in ["near", "Like", None, 3, True, ["like"], "", Likes(1, (), ())]:
            for function in ROWS:
                keeps(self, InvalidVerdicts, 1, function, RULE, ("like", word))
        for function in ROWS:
            keeps(self, InvalidVerdicts, 0, function, RULE, ("x", "near"))
            for value in odd_values():
                check_ways(self, function, (RULE, value))
                check_ways(self, function, (RULE, ("like", value)), lists=(1,))
            check_ways(self, function, (RULE, ("near", "like")), lists=(1,))
            self.assertEqual(function(RULE, ("near", "like")), function(row=["near", "like"], rule=RULE))


class PairTest(unittest.TestCase):
    def test_pairs(self):
        choice = chance(152)
        words = {}
        for _ in range(300):
            rule = some_rule(choice, 4)
            one, other = some_fields(choice, rule), some_fields(choice, rule)
            far = tuple(field_distance(field[0], a, b) for field, a, b in zip(rule[0], one, other))
            row = tuple(plain_verdict(field, distance) for field, distance in zip(rule[0], far))
            weights = [dict(zip(WORDS, field[3]))[word] for field, word in zip(rule[0], row)]
            told = (plain_word(rule, row), sum(weights), tuple(zip(far, row, weights)))
            words[told[0]] = words.get(told[0], 0) + 1
            for a, b in ((one, other), (other, one)):
                self.assertTrue(same(field_distances(rule, a, b), far))
                self.assertTrue(same(verdict_row(rule, a, b), row))
                self.assertTrue(same(pair_likeness(rule, a, b), told))
        self.assertGreater(min(words.values()), 20)
        self.assertTrue(same(pair_likeness(RULE, ["anna", 3], ("ann", 5)),
                             ("barred", 1, ((1, "near", 5), (2, "unlike", -4)))))
        self.assertTrue(same(pair_likeness(RULE, ("anna", None), ["anna", 5]),
                             ("link", 8, ((0, "like", 9), (None, "lacking", -1)))))
        self.assertTrue(same(pair_likeness(RULE, (None, None), (None, 5)),
                             ("none", -1, ((None, "lacking", 0), (None, "lacking", -1)))))

    def test_errors(self):
        for function in PAIRS:
            for value in (None, 3, (), ("a",), ("a", 1, 1), "ab", True):
                keeps(self, InvalidRecord, 0, function, RULE, value, value)
                keeps(self, InvalidRecord, 1, function, RULE, (3, "a"), value)
            for value in (3, True, ("a",), "\n"):
                keeps(self, InvalidValue, 0, function, RULE, (value, "x"), (value, 1))
                keeps(self, InvalidValue, 1, function, RULE, (None, "x"), (value, 1))
            keeps(self, InvalidValue, 1, function, RULE, ("a", 1), ("b", False))
            keeps(self, InvalidValue, 0, function, RULE, ("a", "1"), ("b", "1"))
            for value in odd_values():
                check_ways(self, function, (RULE, value, ("a", 1)), lists=(1, 2))
                check_ways(self, function, (RULE, ("a", value), ("a", value)), lists=(1, 2))
        lists = ((("lists", 0, 1, (0, 1, 1, 0)),), 1, ())
        self.assertEqual(pair_likeness(lists, [["a", "b"]], ((("a",),))), ("link", 1, ((1, "near", 1),)))


if __name__ == "__main__":
    unittest.main()
