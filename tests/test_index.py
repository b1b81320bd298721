"""[22], [23]: whether fields catch all links of a rule; records found by keys."""

import copy
import itertools
import unittest

from helpers import chance, changed_values, check_ways, has_list, in_lists, keeps, odd_values, same
from test_comparing import TAKEN
from test_rules import plain_possible, plain_sum, plain_verdict, plain_word, some_fields, some_rule
from test_windows import no_lists, plain_takes
from whoiswho.comparing import field_distance
from whoiswho.errors import InvalidField, InvalidName, InvalidRecord, InvalidRule, InvalidValue, NoRecord, Refused
from whoiswho.filters import asked_keys, put_keys
from whoiswho.index import Index, fewest_fields, fields_hold, fields_paper, keyed_fields
from whoiswho.rules import record_pair

RULE = ((("edits", 0, 1, (0, 9, 5, -9)), ("apart", 1, 2, (-1, 3, 0, -4)), ("exact", 0, 0, (0, 2, 0, 0))), 6,
        (((1, "unlike"),),))


def row_of(rule, one, other):
    return tuple(plain_verdict(field, field_distance(field[0], a, b)) for field, a, b in zip(rule[0], one, other))


def plain_missed(rule, fields):
    """All rows of links that meet in none of the fields."""
    rows = itertools.product(*[plain_possible(field) for field in rule[0]])
    return [row for row in rows if plain_word(rule, row) == "link" and not any(row[at] in ("like", "near") for at in fields)]


def plain_tree(rule, fields, row, tree):
    if type(tree) is not tuple or not tree or type(tree[0]) is not str:
        return False
    taken = [tuple(word for word in plain_possible(field) if at not in fields or word in ("lacking", "unlike"))
             for at, field in enumerate(rule[0])]
    if tree[0] == "below":
        sums = [plain_sum(rule, row + rest) for rest in itertools.product(*taken[len(row):])]
        return len(tree) == 1 and max(sums) < rule[1]
    if tree[0] == "barred":
        return len(tree) == 2 and type(tree[1]) is int and 0 <= tree[1] < len(rule[2]) and all(
            at < len(row) and row[at] == word for at, word in rule[2][tree[1]])
    if tree[0] != "parted" or len(tree) != 2 or type(tree[1]) is not tuple or len(row) == len(rule[0]):
        return False
    return len(tree[1]) == len(taken[len(row)]) and all(
        plain_tree(rule, fields, row + (word,), part) for word, part in zip(taken[len(row)], tree[1]))


def plain_holds(rule, fields, value):
    if type(value) is not tuple or not value or type(value[0]) is not str:
        return False
    if value[0] == "caught":
        return len(value) == 2 and plain_tree(rule, fields, (), value[1])
    if value[0] != "missed" or len(value) != 3 or not no_lists(value):
        return False
    for record in value[1:]:
        if type(record) is not tuple or len(record) != len(rule[0]) or not all(
                plain_takes(field[0], thing) for field, thing in zip(rule[0], record)):
            return False
    return row_of(rule, *value[1:]) in plain_missed(rule, fields)


def some_places(choice, rule):
    return tuple(at for at in range(len(rule[0])) if choice.random() < 0.5)


def likely_rule(choice, most=4):
    """A rule by which alike fields tell for a link."""
    fields, _, bars = some_rule(choice, most)
    fields = tuple(field[:3] + ((choice.randint(-1, 1), choice.randint(1, 5), choice.randint(0, 3), choice.randint(-4, 0)),)
                   for field in fields)
    return fields, choice.randint(1, 5), bars


class FieldsTest(unittest.TestCase):
    def test_papers(self):
        choice = chance(22)
        found = {"missed": 0, "caught": 0}
        for _ in range(250):
            rule = likely_rule(choice) if choice.random() < 0.7 else some_rule(choice, 4)
            fields = some_places(choice, rule)
            paper = fields_paper(rule, fields)
            self.assertEqual(paper[0], "missed" if plain_missed(rule, fields) else "caught")
            found[paper[0]] += 1
            self.assertTrue(plain_holds(rule, fields, paper), (rule, fields, paper))
            self.assertIs(fields_hold(rule, list(fields), paper), True)
            self.assertFalse(has_list(paper))
            for value in changed_values(paper, choice, 10):
                self.assertIs(fields_hold(rule, fields, value), plain_holds(rule, fields, value), (rule, fields, value))
            for value in (("caught", ("below",)), ("caught", ("barred", 0)), ("caught", ("parted", ())), ("caught",)):
                self.assertIs(fields_hold(rule, fields, value), plain_holds(rule, fields, value))
            for row in plain_missed(rule, fields)[:3]:
                self.assertIs(fields_hold(rule, fields, ("missed",) + record_pair(rule, row)), True)
        self.assertGreater(min(found.values()), 60)

    def test_any_trees_hold(self):
        # Trees that go on where they could end.
        choice = chance(221)
        many = {True: 0, False: 0}
        for _ in range(200):
            rule = likely_rule(choice, 3)
            fields = tuple(range(len(rule[0])))
            tree = self.whole_tree(choice, rule, fields, ())
            held = plain_tree(rule, fields, (), tree)
            many[held] += 1
            self.assertIs(fields_hold(rule, fields, ("caught", tree)), held)
        self.assertGreater(min(many.values()), 15)

    def whole_tree(self, choice, rule, fields, row):
        kind = choice.random()
        if len(row) < len(rule[0]) and (kind < 0.6 or not row):
            words = [word for word in plain_possible(rule[0][len(row)]) if word in ("lacking", "unlike")]
            return ("parted", tuple(self.whole_tree(choice, rule, fields, row + (word,)) for word in words))
        barred = [at for at in range(len(rule[2])) if plain_tree(rule, fields, row, ("barred", at))]
        return ("barred", choice.choice(barred)) if barred and kind < 0.9 else ("below",)

    def test_by_hand(self):
        one_field = ((("edits", 0, 1, (0, 9, 5, -9)),), 6, ())
        self.assertEqual(fields_paper(one_field, (0,)), ("caught", ("below",)))
        self.assertEqual(fields_paper(one_field, ())[0], "missed")
        self.assertEqual(fields_paper(RULE, [0]), ("caught", ("below",)))
        self.assertEqual(fields_paper(RULE, [1, 2])[0], "missed")
        least = (RULE[0], 4, RULE[2])
        self.assertEqual(fields_paper(least, [0])[0], "missed")
        barred = ((("edits", 0, 1, (0, 9, 5, 9)),), 6, (((0, "unlike"),),))
        self.assertEqual(fields_paper(barred, [0]), ("caught", ("parted", (("below",), ("barred", 0)))))
        self.assertIs(fields_hold(barred, [0], ("caught", ("parted", (("below",), ("barred", True))))), False)
        self.assertIs(fields_hold(barred, [0], ("caught", ("parted", (("below",),) * 2))), False)
        # A tree goes no further than the last field; what meets in a told field is not missed.
        for tree in (("parted", ()), ("parted", (("below",),)), ("parted", (("below",), ("below",)))):
            self.assertIs(fields_hold(barred, [0], ("caught", ("parted", (tree, ("barred", 0))))), False)
        self.assertIs(fields_hold(one_field, [0], ("missed", ("a",), ("a",))), False)
        self.assertIs(fields_hold(one_field, [], ("missed", ("a",), ("a",))), True)
        # Of a binary comparer with near above 0 nothing is unlike.
        binary = ((("exact", 0, 1, (0, 9, 5, 9)),), 6, ())
        self.assertEqual(fields_paper(binary, [0]), ("caught", ("below",)))
        self.assertIs(fields_hold(binary, [0], ("caught", ("parted", (("below",),)))), True)

    def test_keyed_and_fewest(self):
        choice = chance(222)
        found = {}
        for _ in range(200):
            rule = likely_rule(choice) if choice.random() < 0.8 else some_rule(choice, 4)
            keyed = tuple(at for at, field in enumerate(rule[0]) if put_keys(field[0], field[2], None) is not None)
            self.assertTrue(same(keyed_fields(rule), keyed))
            lots = [lot for many in range(len(keyed) + 1) for lot in itertools.combinations(keyed, many)]
            caught = [lot for lot in lots if not plain_missed(rule, lot)]
            fewest = caught[0] if caught else None
            found[fewest] = found.get(fewest, 0) + 1
            self.assertTrue(same(fewest_fields(rule), fewest))
            for lot in caught:
                self.assertTrue(all(more in caught for more in lots if set(lot) <= set(more)))
        self.assertGreater(min(found[key] for key in (None, (), (0,))), 5)
        self.assertGreater(len([key for key in found if key and len(key) > 1]), 2)

    def test_errors(self):
        for value in odd_values():
            for function, rest in ((fields_paper, (None,)), (fields_hold, (None, None)), (keyed_fields, ()), (fewest_fields, ()),
                                   (Index, (None,))):
                keeps(self, InvalidRule, -1, function, value, *rest)
                keeps(self, InvalidRule, 0, function, (value, 0, ()), *rest)
        for function, rest in ((fields_paper, ()), (fields_hold, (None,)), (Index, ())):
            for value in (None, 3, True, "01", RULE[0][0][0]):
                keeps(self, InvalidField, -1, function, RULE, value, *rest)
            for value in (3, -1, True, None, "0", (0,), 0, 1):
                keeps(self, InvalidField, 1, function, RULE, [1, value, None], *rest)
            keeps(self, InvalidField, 0, function, RULE, ["a", 5], *rest)
            for value in odd_values():
                if function is not Index:
                    check_ways(self, function, (RULE, value) + rest, lists=(1,))
                    check_ways(self, function, (RULE, (0, value)) + rest, lists=(1,))
        for value in odd_values():
            self.assertIs(fields_hold(RULE, (0,), value), False)
        binary = ((("exact", 0, 1, (0, 9, 5, 9)), ("shared", 0, 0, (0, 9, 5, 9))), 6, ())
        keeps(self, InvalidField, 1, fields_paper, binary, (0, 0))
        keeps(self, InvalidField, 1, Index, binary, (0, 0))
        keeps(self, InvalidField, 0, Index, binary, (0, 1))
        Index(binary, (1,))
        keeps(self, InvalidField, 1, Index, RULE[:1] + (0, ()), (0, 5))


class IndexTest(unittest.TestCase):
    def test_likely_names(self):
        choice = chance(23)
        many = 0
        for _ in range(100):
            rule = some_rule(choice, 3)
            fields = tuple(at for at in keyed_fields(rule) if choice.random() < 0.7)
            index, kept = Index(rule, choice.choice([fields, list(fields)])), {}
            for _ in range(20):
                name, values = (choice.randint(0, 1), choice.randint(0, 4)), some_fields(choice, rule)
                if name in kept:
                    self.assertIsNone(index.take_record(list(name)))
                    del kept[name]
                else:
                    self.assertIsNone(index.put_record(name, in_lists(values) if choice.random() < 0.3 else values))
                    kept[name] = values
                asked = some_fields(choice, rule)
                likely = tuple(sorted(known for known in kept if self.is_likely(rule, fields, kept[known], asked)))
                many += len(likely)
                self.assertTrue(same(index.likely_names(in_lists(asked)), likely))
                self.assertTrue(same(index.likely_names(values=asked), likely))
                for known in kept:
                    # What meets in a told field is likely.
                    row = row_of(rule, kept[known], asked)
                    if any(row[at] in ("like", "near") for at in fields):
                        self.assertIn(known, likely)
        self.assertGreater(many, 500)

    def is_likely(self, rule, fields, put, asked):
        return any(set(put_keys(rule[0][at][0], rule[0][at][2], put[at])) & set(asked_keys(rule[0][at][0], rule[0][at][2], asked[at]))
                   for at in fields)

    def unchanged(self, index, error, kept, method, *args):
        before = copy.deepcopy(vars(index))
        keeps(self, error, kept, getattr(index, method), *args)
        self.assertEqual(before, vars(index))

    def test_errors(self):
        index = Index(RULE, (0, 1))
        index.put_record((0, 0), ("ann", 3, ()))
        good = ("ann", None, "x")
        for value in odd_values() + [(0, -1), ((0, 0),), "ab"]:
            if not (type(value) in (tuple, list) and len(value) == 2 and all(type(part) is int and part >= 0 for part in value)):
                self.unchanged(index, InvalidName, -1, "put_record", value, None)
                self.unchanged(index, InvalidName, -1, "take_record", value)
        for value in (None, 3, True, "abc", (), good[:2], good + (None,), [1]):
            self.unchanged(index, InvalidRecord, 0, "put_record", (0, 0), value)
            self.unchanged(index, InvalidRecord, 0, "likely_names", value)
        for value in ((3, None, "x"), ("a", "b", "x"), ("a", True, "x"), ("\n", 0, 0), ("a", 0, ["b", "a"]), ("a", 0, True)):
            self.unchanged(index, InvalidValue, 0, "put_record", (0, 0), value)
            self.unchanged(index, InvalidValue, 0, "likely_names", value)
        self.unchanged(index, Refused, -1, "put_record", [0, 0], good)
        self.unchanged(index, NoRecord, (0, 1), "take_record", (0, 1))
        self.unchanged(index, NoRecord, [0, 1], "take_record", [0, 1])
        with self.assertRaises(TypeError):
            iter(index)
        with self.assertRaises(TypeError):
            len(index)

    def test_ways(self):
        values = [["a", "b"], ["a"]]
        rule = ((("lists", 0, 1, (0, 1, 1, 0)), ("exact", 0, 0, (0, 1, 0, 0))), 1, ())
        index = Index(fields=[0, 1], rule=rule)
        index.put_record(values=values, name=[1, 2])
        values[0].append("z")
        values[1][0] = "q"
        self.assertEqual(index.likely_names([None, ("a",)]), ((1, 2),))
        self.assertEqual(index.likely_names([("a", "b"), None]), ((1, 2),))
        self.assertEqual(index.likely_names([("q", "z"), ("q",)]), ())
        self.assertEqual(index.likely_names([None, None]), ())
        index.take_record(name=(1, 2))
        self.assertEqual(index.likely_names([("a", "b"), ("a",)]), ())
        for comparer in TAKEN:
            index = Index(((((comparer, 0, 0, (0, 0, 0, 0))),), 0, ()), (0,))
            for at, value in enumerate([None] + TAKEN[comparer]):
                index.put_record((0, at), (value,))
            for at, value in enumerate(TAKEN[comparer]):
                found = index.likely_names((value,))
                self.assertEqual((0, at + 1) in found, field_distance(comparer, value, value) == 0)
                self.assertNotIn((0, 0), found)


if __name__ == "__main__":
    unittest.main()
