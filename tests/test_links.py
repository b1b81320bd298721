"""[23]: links and bars of records by a rule, from nothing and kept along."""

import copy
import itertools
import unittest

from helpers import chance, check_ways, has_list, in_lists, keeps, odd_values, same
from test_index import likely_rule, plain_missed
from test_rules import some_fields, some_rule
from whoiswho.errors import InvalidField, InvalidName, InvalidRecord, InvalidRule, InvalidValue, NoRecord, Refused
from whoiswho.index import Index, fewest_fields, keyed_fields
from whoiswho.links import Links, plain_links, rule_bars
from whoiswho.rules import pair_likeness

RULE = ((("edits", 0, 1, (0, 9, 5, -9)), ("exact", 0, 0, (0, 0, 0, -1))), 4, (((1, "unlike"),),))
RECORDS = (((0, 0), ("ann", 3)), ((0, 1), ("anna", 3)), ((1, 0), ("an", None)), ((1, 1), ("ben", 4)))


def plain_words(rule, records):
    """(links by names, bars)."""
    links, bars = [], []
    for (one, ones), (other, others) in itertools.combinations(sorted(records), 2):
        word, total, _ = pair_likeness(rule, ones, others)
        if word == "link":
            links.append((total, one, other))
        if word == "barred":
            bars.append((one, other))
    return tuple(links), tuple(bars)


class PlainTest(unittest.TestCase):
    def test_against_all_pairs(self):
        choice = chance(23)
        many = [0, 0]
        for _ in range(120):
            rule = some_rule(choice, 3)
            names = sorted(choice.sample([(house, number) for house in range(3) for number in range(9)], choice.randint(0, 9)))
            records = tuple((name, some_fields(choice, rule)) for name in names)
            links, bars = plain_words(rule, records)
            many[0] += len(links)
            many[1] += len(bars)
            self.assertTrue(same(plain_links(rule, records), links))
            self.assertTrue(same(rule_bars(rule, records), bars))
            self.assertTrue(same(plain_links(rule, in_lists(records)), links))
            self.assertTrue(same(rule_bars(rule, in_lists(records)), bars))
        self.assertGreater(min(many), 100)

    def test_by_hand(self):
        self.assertTrue(same(plain_links(RULE, RECORDS), ((5, (0, 0), (0, 1)), (5, (0, 0), (1, 0)))))
        self.assertTrue(same(rule_bars(RULE, RECORDS), (((0, 0), (1, 1)), ((0, 1), (1, 1)))))
        self.assertEqual((plain_links(RULE, ()), rule_bars(RULE, [])), ((), ()))

    def test_errors(self):
        for function in (plain_links, rule_bars):
            for value in odd_values():
                keeps(self, InvalidRule, -1, function, value, None)
                check_ways(self, function, (RULE, value), lists=(1,))
                check_ways(self, function, (RULE, RECORDS[:1] + (value,)), lists=(1,))
                check_ways(self, function, (RULE, (((0, 0), value),)), lists=(1,))
            check_ways(self, function, (RULE, RECORDS), lists=(1,))
            for value in (None, 3, True, "ab", {}):
                keeps(self, InvalidRecord, -1, function, RULE, value)
            first = RECORDS[0]
            for wrong in (None, 3, (), first, ((0, 0), ("b", 3)), ((0, 1),), ((0, 1), ("b",)), ((0, 1), ("b", 3, 3)), ((0, 1), ("b", True)),
                          ((0, 1), (3, 3)), ((0, True), ("b", 3)), ((-1, 1), ("b", 3)), ((0, 1), ("b", 3), 0), "ab", ((0, 1), "bc"),
                          ("ab", ("b", 3)), ((0, 1), None)):
                keeps(self, InvalidRecord, 1, function, RULE, [first, wrong, None])
            keeps(self, InvalidRecord, 0, function, RULE, [((0, 0), (3, 3)), None])
            keeps(self, InvalidRecord, 2, function, RULE, [first, ((0, 2), ("b", 3)), ((0, 1), ("b", 3))])
            keeps(self, InvalidRule, 1, function, (RULE[0], None, 3), None)


class LinksTest(unittest.TestCase):
    def check(self, kept, rule, records):
        rows = tuple(sorted(records.items()))
        self.assertTrue(same(kept.all_records(), rows))
        self.assertTrue(same(kept.all_links(), plain_links(rule, rows)))

    def test_rows_of_deeds(self):
        choice = chance(231)
        rules = 0
        told = {"put": 0, "take": 0, "change": 0}
        while rules < 80:
            rule = likely_rule(choice, 3)
            fields = fewest_fields(rule)
            if fields is None:
                continue
            rules += 1
            fields = tuple(at for at in keyed_fields(rule) if at in fields or choice.random() < 0.3)
            kept, records, index = Links(rule, choice.choice([fields, list(fields)])), {}, Index(rule, fields)
            self.assertTrue(same((kept.looked, kept.all_links(), kept.all_records()), (0, (), ())))
            for _ in range(25):
                name, values = (choice.randint(0, 1), choice.randint(0, 3)), some_fields(choice, rule)
                before, looked = plain_links(rule, sorted(records.items())), kept.looked
                deed = "put" if name not in records else choice.choice(["take", "change"])
                if deed != "put":
                    index.take_record(name)
                if deed == "take":
                    gone = kept.take_record(choice.choice([name, list(name)]))
                    del records[name]
                    come = ()
                    self.assertTrue(same(kept.looked, looked))
                else:
                    self.assertTrue(same(len(index.likely_names(values)), len(index.likely_names(in_lists(values)))))
                    looked = len(index.likely_names(values))
                    passed = in_lists(values) if choice.random() < 0.3 else values
                    gone, come = ((), kept.put_record(name, passed)) if deed == "put" else kept.change_record(name, passed)
                    self.assertTrue(same(kept.looked, looked))
                    records[name] = values
                    index.put_record(name, values)
                after = plain_links(rule, sorted(records.items()))
                self.assertTrue(same(gone, tuple(link for link in before if link not in after)))
                self.assertTrue(same(come, tuple(link for link in after if link not in before)))
                told[deed] += len(gone) + len(come)
                self.check(kept, rule, records)
                self.assertFalse(has_list((gone, come, kept.all_records())))
        self.assertGreater(min(told.values()), 50)

    def test_a_change_tells_just_the_difference(self):
        kept = Links(RULE, [0])
        kept.put_record((0, 0), ("ann", 3))
        self.assertEqual(kept.put_record((0, 2), ("ann", 3)), ((9, (0, 0), (0, 2)),))
        self.assertEqual(kept.put_record((0, 1), ("anna", 3)), ((5, (0, 0), (0, 1)), (5, (0, 1), (0, 2))))
        self.assertEqual(kept.looked, 2)
        self.assertEqual(kept.change_record((0, 0), ("ann", 3)), ((), ()))
        self.assertEqual(kept.looked, 2)
        self.assertEqual(kept.change_record((0, 0), ("ann", None)), ((), ()))
        self.assertEqual(kept.change_record((0, 0), ("anna", None)), (((5, (0, 0), (0, 1)), (9, (0, 0), (0, 2))),
                                                                     ((9, (0, 0), (0, 1)), (5, (0, 0), (0, 2)))))
        self.assertEqual(kept.change_record((0, 0), ("x", None)), (((9, (0, 0), (0, 1)), (5, (0, 0), (0, 2))), ()))
        self.assertEqual(kept.looked, 0)
        self.assertEqual(kept.take_record((0, 1)), ((5, (0, 1), (0, 2)),))
        self.assertEqual(kept.all_links(), ())

    def test_refused_fields(self):
        choice = chance(232)
        found = {True: 0, False: 0}
        for _ in range(150):
            rule = likely_rule(choice, 3)
            fields = tuple(at for at in keyed_fields(rule) if choice.random() < 0.6)
            missed = bool(plain_missed(rule, fields))
            found[missed] += 1
            if missed:
                keeps(self, Refused, -1, Links, rule, fields)
            else:
                self.assertEqual(Links(fields=list(fields), rule=rule).all_links(), ())
        self.assertGreater(min(found.values()), 30)

    def state(self, kept):
        return copy.deepcopy([[vars(kept)[word] for word in sorted(vars(kept)) if word != "_index"], vars(kept._index)])

    def unchanged(self, kept, error, thing, method, *args):
        before = self.state(kept)
        keeps(self, error, thing, getattr(kept, method), *args)
        self.assertEqual(before, self.state(kept))

    def test_errors(self):
        for value in odd_values():
            keeps(self, InvalidRule, -1, Links, value, None)
        for value in (None, 3, True, "01"):
            keeps(self, InvalidField, -1, Links, RULE, value)
        keeps(self, InvalidField, 1, Links, RULE, [0, 0])
        keeps(self, InvalidField, 0, Links, RULE, (2,))
        binary = ((("exact", 0, 1, (0, 9, 5, 9)),), 6, ())
        keeps(self, InvalidField, 0, Links, binary, (0,))
        keeps(self, Refused, -1, Links, RULE, (1,))
        kept = Links(RULE, (0,))
        for name, values in RECORDS:
            kept.put_record(name, values)
        for value in odd_values():
            if not (type(value) in (tuple, list) and len(value) == 2 and all(type(part) is int and part >= 0 for part in value)):
                for method, rest in (("put_record", (None,)), ("change_record", (None,)), ("take_record", ())):
                    self.unchanged(kept, InvalidName, -1, method, value, *rest)
        for method in ("put_record", "change_record"):
            for name in ((0, 0), (7, 7)):
                for value in (None, 3, True, "ab", (), ("a",), ("a", 3, 3)):
                    self.unchanged(kept, InvalidRecord, 0, method, name, value)
                for value in ((3, 3), ("a", True), ("\n", 3), ("a", ["b", "a"])):
                    self.unchanged(kept, InvalidValue, 0, method, name, value)
        self.unchanged(kept, Refused, -1, "put_record", [0, 0], ("a", 3))
        self.unchanged(kept, NoRecord, [7, 7], "change_record", [7, 7], ("a", 3))
        self.unchanged(kept, NoRecord, (7, 7), "take_record", (7, 7))
        with self.assertRaises(TypeError):
            iter(kept)
        with self.assertRaises(TypeError):
            len(kept)

    def test_ways(self):
        kept = Links(RULE, [0])
        values = ["ann", ["a", "b"]]
        kept.put_record(values=values, name=[0, 0])
        values[1].append("z")
        values[0] = "x"
        self.assertTrue(same(kept.all_records(), (((0, 0), ("ann", ("a", "b"))),)))
        self.assertEqual(kept.change_record(values=["ann", None], name=[0, 0]), ((), ()))
        self.assertEqual(kept.take_record(name=[0, 0]), ())


if __name__ == "__main__":
    unittest.main()
