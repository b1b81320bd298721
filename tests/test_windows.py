"""[17], [18]: which sums turn when a rule changes; whether two rules say the same of any two records."""

import itertools
import unittest

from helpers import chance, changed_values, check_ways, keeps, odd_values, same
from test_comparing import TAKEN
from test_rules import plain_fault, plain_possible, plain_sum, plain_verdict, plain_word, some_fields, some_rule
from whoiswho.comparing import field_distance
from whoiswho.errors import InvalidRule, Refused
from whoiswho.rules import pair_likeness
from whoiswho.windows import change_window, rules_hold, rules_paper

RULE = ((("edits", 0, 2, (0, 9, 5, -9)), ("exact", 0, 0, (-1, 3, 0, -4))), 6, (((0, "near"), (1, "unlike")),))
FIELD = ("edits", 0, 2, (0, 9, 5, -9))


def changed_weights(choice, rule):
    """A rule with the same comparers and limits, some weights changed, and (g, h): how much greater, lesser."""
    fields, greater, lesser = [], 0, 0
    for comparer, like, near, weights in rule[0]:
        changes = [choice.choice([0, 0, 0, 1, 2, -1, -3]) for _ in weights]
        possible = plain_possible((comparer, like, near, weights))
        told = [change for word, change in zip(("lacking", "like", "near", "unlike"), changes) if word in possible]
        greater += max(told + [0])
        lesser += max([-change for change in told] + [0])
        fields.append((comparer, like, near, tuple(weight + change for weight, change in zip(weights, changes))))
    return (tuple(fields), rule[1], rule[2]), greater, lesser


def other_rule(choice, rule, same_limits):
    """A rule with the same comparers."""
    other = some_rule(choice, 4)
    while len(other[0]) < len(rule[0]):
        other = some_rule(choice, 4)
    fields = []
    for mine, theirs in zip(rule[0], other[0]):
        limits = mine[1:3] if same_limits else theirs[1:3]
        fields.append((mine[0],) + limits + (mine[3] if choice.random() < 0.6 else theirs[3],))
    bars = rule[2] if choice.random() < 0.5 else tuple(bar for bar in other[2] if bar[-1][0] < len(fields))
    return tuple(fields), rule[1] if choice.random() < 0.5 else other[1], bars


def plain_window(elder, newer):
    sums = []
    for row in itertools.product(*[plain_possible(field) for field in elder[0]]):
        if (plain_word(elder, row) == "link") != (plain_word(newer, row) == "link"):
            sums.append(plain_sum(elder, row))
    return (min(sums), max(sums)) if sums else None


class WindowTest(unittest.TestCase):
    def test_against_all_rows(self):
        choice = chance(17)
        found = {True: 0, False: 0}
        for _ in range(150):
            elder = some_rule(choice, 4)
            newer = other_rule(choice, elder, True)
            window = change_window(elder, newer)
            self.assertTrue(same(window, plain_window(elder, newer)))
            found[window is None] += 1
            for _ in range(6):
                one, other = some_fields(choice, elder), some_fields(choice, elder)
                first, second = pair_likeness(elder, one, other), pair_likeness(newer, one, other)
                if (first[0] == "link") != (second[0] == "link"):
                    self.assertTrue(window[0] <= first[1] <= window[1])
        self.assertGreater(min(found.values()), 20)

    def test_weights_alone(self):
        choice = chance(171)
        many = 0
        for _ in range(300):
            elder = some_rule(choice, 3)
            newer, greater, lesser = changed_weights(choice, elder)
            window = change_window(elder, newer)
            if window is not None:
                many += 1
                self.assertGreaterEqual(window[0], elder[1] - greater)
                self.assertLessEqual(window[1], elder[1] + lesser - 1)
        self.assertGreater(many, 100)

    def test_by_hand(self):
        self.assertIsNone(change_window(RULE, RULE))
        self.assertTrue(same(change_window(RULE, (RULE[0], 9, RULE[2])), (8, 8)))
        self.assertTrue(same(change_window(RULE, (RULE[0], 5, RULE[2])), (5, 5)))
        self.assertTrue(same(change_window(RULE, (RULE[0], 10 ** 6, ())), (8, 12)))
        # A row that is barred by one alone turns, whatever its sum.
        self.assertTrue(same(change_window(RULE, (RULE[0], -20, ())), (-13, 5)))
        # "near" is none that values of the second field have: its weight turns nothing.
        other = ("exact", 0, 0, (-1, 3, 50, -4))
        self.assertIsNone(change_window(RULE, ((FIELD, other), 6, RULE[2])))

    def test_errors(self):
        for value in odd_values():
            keeps(self, InvalidRule, -1 if not (type(value) is tuple and len(value) == 3) else plain_fault(value),
                  change_window, value, None)
            keeps(self, InvalidRule, -1, change_window, RULE, value)
            check_ways(self, change_window, (RULE, value))
            check_ways(self, change_window, (value, RULE))
        self.check_refused(change_window)
        for place, field in enumerate([("grams", 0, 2, FIELD[3]), ("edits", 1, 2, FIELD[3]), ("edits", 0, 3, FIELD[3])]):
            keeps(self, Refused, 0, change_window, RULE, ((field, RULE[0][1]), 0, ()))
            keeps(self, Refused, 1, change_window, ((FIELD, FIELD), 0, ()), ((FIELD, field), 0, ()))
        check_ways(self, change_window, (RULE, ((FIELD,) * 2, 6, RULE[2])))
        self.assertEqual(change_window(newer=(RULE[0], 9, RULE[2]), elder=RULE), (8, 8))

    def check_refused(self, function, *rest):
        keeps(self, Refused, -1, function, RULE, (RULE[0][:1], 0, ()), *rest)
        keeps(self, Refused, -1, function, (RULE[0] * 2, 0, ()), RULE, *rest)
        keeps(self, InvalidRule, 1, function, (RULE[0], None, 3), (RULE[0][:1], None, 3), *rest)
        keeps(self, InvalidRule, 2, function, RULE, (RULE[0][:1], 0, [()]), *rest)
        keeps(self, InvalidRule, -1, function, RULE, list(RULE), *rest)


def plain_distances(comparer):
    return [None, 0, 1] if comparer in ("exact", "shared") else [None] + list(range(6))


def word_at(rule, distances):
    return plain_word(rule, [plain_verdict(field, far) for field, far in zip(rule[0], distances)])


def plain_least(one, other):
    """The least row of distances of which two rules say unlike words, or None."""
    for row in itertools.product(*[plain_distances(field[0]) for field in one[0]]):
        if word_at(one, row) != word_at(other, row):
            return row
    return None


def no_lists(value):
    return not isinstance(value, list) and (not isinstance(value, tuple) or all(map(no_lists, value)))


def plain_takes(comparer, value):
    if value is None:
        return True
    if comparer in ("edits", "grams", "exact") and type(value) is str:
        return all(" " <= sign <= "~" for sign in value)
    if comparer in ("apart", "exact") and type(value) is int:
        return True
    return comparer in ("lists", "shared", "exact") and type(value) is tuple \
        and all(type(text) is str and plain_takes("edits", text) for text in value) and list(value) == sorted(set(value))


def plain_holds(one, other, value):
    if type(value) is not tuple or not value:
        return False
    if same(value, ("alike",)):
        return plain_least(one, other) is None
    if len(value) != 4 or not same(value[0], "unlike") or not no_lists(value):
        return False
    records = value[2:]
    for record in records:
        if type(record) is not tuple or len(record) != len(one[0]) or not all(
                plain_takes(field[0], thing) for field, thing in zip(one[0], record)):
            return False
    told = tuple(field_distance(field[0], a, b) for field, a, b in zip(one[0], *records))
    return same(value[1], told) and word_at(one, told) != word_at(other, told)


class RulesTest(unittest.TestCase):
    def test_papers(self):
        choice = chance(18)
        found = {"alike": 0, "unlike": 0}
        for _ in range(150):
            one = some_rule(choice, 3)
            other = other_rule(choice, one, choice.random() < 0.5) if choice.random() < 0.7 \
                else changed_weights(choice, one)[0]
            paper = rules_paper(one, other)
            found[paper[0]] += 1
            least = plain_least(one, other)
            if least is None:
                self.assertTrue(same(paper, ("alike",)))
            else:
                self.assertEqual((paper[0], len(paper)), ("unlike", 4))
                self.assertTrue(same(paper[1], least))
            self.assertTrue(plain_holds(one, other, paper))
            self.assertIs(rules_hold(one, other, paper), True)
            self.assertIs(rules_hold(other, one, paper), True)
            for value in changed_values(paper, choice, 15):
                self.assertIs(rules_hold(one, other, value), plain_holds(one, other, value), (one, other, value))
        self.assertGreater(min(found.values()), 20)

    def test_any_records_hold(self):
        choice = chance(181)
        found = {True: 0, False: 0}
        for _ in range(300):
            one = some_rule(choice, 2)
            other = other_rule(choice, one, False)
            records = some_fields(choice, one), some_fields(choice, one)
            told = tuple(field_distance(field[0], a, b) for field, a, b in zip(one[0], *records))
            value = ("unlike", told) + records
            found[rules_hold(one, other, value)] += 1
            self.assertIs(rules_hold(one, other, value), plain_holds(one, other, value))
            self.assertIs(rules_hold(one, other, ("unlike", list(told)) + records), False)
            self.assertIs(rules_hold(one, other, ("unlike", told, list(records[0]), records[1])), False)
        self.assertGreater(min(found.values()), 50)

    def test_by_hand(self):
        self.assertTrue(same(rules_paper(RULE, RULE), ("alike",)))
        # The least row: lacking ahead of all numbers, by places.
        self.assertEqual(rules_paper(RULE, (RULE[0], -1, RULE[2]))[:2], ("unlike", (None, None)))
        self.assertEqual(rules_paper(RULE, (RULE[0], 3, RULE[2]))[:2], ("unlike", (None, 0)))
        # Weights by which no word turns, and limits that no comparer reaches, are nothing to it.
        other = ((("edits", 0, 2, (0, 8, 5, -7)), ("exact", 0, 5, (-1, 3, -4, 10 ** 9))), 6,
                 (((0, "near"), (1, "near")),))
        self.assertEqual(rules_paper(RULE, other), ("alike",))
        # "none" and "barred" are unlike words.
        self.assertEqual(rules_paper(RULE, (RULE[0], 6, ()))[:2], ("unlike", (1, 1)))
        field = ("apart", 0, 3, (0, 0, 0, 9))
        one, two = ((field,), 9, ()), ((("apart", 2, 4, (0, 0, 0, 9)),), 9, ())
        self.assertEqual(rules_paper(one, two)[:2], ("unlike", (4,)))
        for values in ([4, 8], [0, -4], [10 ** 20, 10 ** 20 + 4]):
            self.assertIs(rules_hold(one, two, ("unlike", (4,), (values[0],), (values[1],))), True)
        self.assertIs(rules_hold(one, two, ("unlike", (5,), (0,), (5,))), False)
        self.assertIs(rules_hold(one, two, ("unlike", (4,), (True,), (5,))), False)
        self.assertIs(rules_hold(one, two, ("alike",)), False)
        lists = ((("lists", 0, 0, (0, 9, 0, 0)),), 9, ())
        other = (lists[0], 10, ())
        self.assertIs(rules_hold(lists, other, ("unlike", (0,), (("a",),), (("a",),))), True)
        self.assertIs(rules_hold(lists, other, ("unlike", (0,), (["a"],), (("a",),))), False)
        self.assertIs(rules_hold(lists, other, ("unlike", (False,), (("a",),), (("a",),))), False)

    def test_errors(self):
        WindowTest.check_refused(self, rules_paper)
        WindowTest.check_refused(self, rules_hold, None)
        for function, rest in ((rules_paper, ()), (rules_hold, (("alike",),))):
            keeps(self, Refused, 0, function, RULE, ((("grams",) + FIELD[1:], RULE[0][1]), 0, ()), *rest)
            keeps(self, Refused, 1, function, RULE, ((FIELD, FIELD), 0, ()), *rest)
            for value in odd_values():
                keeps(self, InvalidRule, -1, function, RULE, value, *rest)
                check_ways(self, function, (value, RULE) + rest)
            check_ways(self, function, (RULE, (RULE[0], 3, ())) + rest)
        for value in odd_values():
            self.assertIs(rules_hold(RULE, RULE, value), False)
            for at in range(1, 4):
                paper = list(rules_paper(RULE, (RULE[0], 3, RULE[2])))
                paper[at] = value
                other, paper = (RULE[0], 3, RULE[2]), tuple(paper)
                self.assertIs(rules_hold(RULE, other, paper), plain_holds(RULE, other, paper))
        for comparer in TAKEN:
            for near in range(3):
                field = (comparer, 0, near, (1, 2, 3, 4))
                for least in range(6):
                    one, other = ((field,), 9, ()), ((field,), least, ())
                    self.assertTrue(plain_holds(one, other, rules_paper(one, other)))


if __name__ == "__main__":
    unittest.main()
