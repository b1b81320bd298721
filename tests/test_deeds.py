"""[34], [35]: lots of words, and the people that they tell."""

import itertools
import unittest

from helpers import chance, changed_values, check_ways, has_list, in_lists, keeps, odd_values, same
from test_people import plain_run, some_case
from test_rules import plain_fault as rule_fault
from worlds import RULES, some_world, told_word
from whoiswho.deeds import beside_marks, hand_words, idle_marks, lot_records, lot_rule, lot_web, need_lot, put_words
from whoiswho.deeds import refused_sames, struck_lot, told_people
from whoiswho.errors import InvalidBars, InvalidLinks, InvalidLot, InvalidPeople
from whoiswho.links import plain_links, rule_bars

TOP = 10 ** 15
RULE = RULES[0]
LOT = (((0, 0), (0, 0), ("put", ("ann",))), ((0, 1), (1, 0), ("change", (0, 0), ("anna",))), ((0, 2), (2, 0), ("rule", RULE)),
       ((1, 0), (3, 1), ("put", ("ann",))), ((1, 1), (4, 1), ("same", (0, 0), (1, 0))), ((1, 2), (5, 1), ("unlike", (0, 0), (7, 7))))
TELLERS = [lot_records, lot_rule, beside_marks, idle_marks, hand_words, lot_web, told_people, refused_sames]


def plain_pair(value):
    return type(value) is tuple and len(value) == 2 and all(type(part) is int and part >= 0 for part in value)


def no_lists(value):
    return not isinstance(value, list) and (not isinstance(value, tuple) or all(map(no_lists, value)))


def plain_text(value):
    return type(value) is str and all(" " <= sign <= "~" for sign in value)


def plain_fields(value):
    if type(value) is not tuple or not value:
        return False
    for thing in value:
        if type(thing) is tuple:
            if not all(map(plain_text, thing)) or list(thing) != sorted(set(thing)):
                return False
        elif thing is not None and type(thing) is not int and not plain_text(thing):
            return False
    return True


def plain_word(value):
    if type(value) is not tuple or not value or type(value[0]) is not str:
        return False
    word, rest = value[0], value[1:]
    if word == "put":
        return len(rest) == 1 and plain_fields(rest[0])
    if word == "change":
        return len(rest) == 2 and plain_pair(rest[0]) and plain_fields(rest[1])
    if word in ("same", "unlike"):
        return len(rest) == 2 and all(map(plain_pair, rest)) and rest[0] < rest[1]
    if word == "rule":
        return len(rest) == 1 and rule_fault(rest[0]) is None
    return word == "day" and len(rest) == 1 and type(rest[0]) is tuple and no_lists(rest)


def takes(comparer, value):
    kinds = {"exact": (str, int, tuple), "edits": (str,), "grams": (str,), "apart": (int,), "lists": (tuple,), "shared": (tuple,)}
    return value is None or type(value) in kinds[comparer]


def plain_fault(value):
    """What InvalidLot keeps, or None for a lot."""
    if type(value) is not tuple:
        return -1
    for at, row in enumerate(value):
        if type(row) is not tuple or len(row) != 3 or not plain_pair(row[0]) or not plain_pair(row[1]):
            return at
        if row[1][1] != row[0][0] or not plain_word(row[2]):
            return at
        if at and not value[at - 1][0] < row[0] or row[1] in [other[1] for other in value[:at]]:
            return at
    all_fields = [row[2][-1] for row in value if row[2][0] in ("put", "change")]
    for row in value:
        if row[2][0] == "rule":
            comparers = [field[0] for field in row[2][1][0]]
            for fields in all_fields:
                if len(fields) != len(comparers) or not all(map(takes, comparers, fields)):
                    return -1
    return None


def some_lot(choice, most=20):
    """A part of the words of a world: some are idle, some are beside others."""
    book, _ = some_world(choice, choice.randint(1, 3), choice.randint(0, most), told_word)
    rows = []
    for house, deeds in enumerate(book):
        for number, (seen, word) in enumerate(deeds):
            if word[0] != "back" and choice.random() < 0.9:
                rows.append(((house, number), (sum(seen), house), word))
    return tuple(rows)


def rerank(choice, lot):
    """Other ranks in the same order."""
    order, last, told = sorted(row[1] for row in lot), -1, {}
    for rank in order:
        last += choice.randint(1, 4)
        told[rank] = (last, rank[1])
    return tuple((mark, told[rank], word) for mark, rank, word in lot)


def plain_told(lot):
    """(records, rule, beside, idle, names, sames, unlikes), by going through all."""
    puts = {mark: [(rank, mark, word[1])] for mark, rank, word in lot if word[0] == "put"}
    idle, rules, words = [], [], []
    for mark, rank, word in lot:
        if word[0] == "change":
            if word[1] in puts:
                puts[word[1]].append((rank, mark, word[2]))
            else:
                idle.append(mark)
        if word[0] in ("same", "unlike"):
            if word[1] in puts and word[2] in puts:
                words.append(word)
            else:
                idle.append(mark)
        if word[0] == "rule":
            rules.append((rank, mark, word[1]))
    beside = [row[1] for row in rules if row[0] != max(rules)[0]]
    for name in puts:
        beside += [row[1] for row in puts[name] if row[0] < max(puts[name], key=lambda row: row[0])[0] and row[1] != name]
    records = tuple((name, max(puts[name], key=lambda row: row[0])[2]) for name in sorted(puts))
    pairs = sorted({word[1:] for word in words if word[0] == "same"})
    sames = sorted([(words.count(("same",) + pair),) + pair for pair in pairs], key=lambda row: (-row[0], row[1:]))
    unlikes = tuple(sorted({word[1:] for word in words if word[0] == "unlike"}))
    rule = max(rules)[2] if rules else None
    return records, rule, tuple(sorted(beside)), tuple(idle), tuple(sorted(puts)), tuple(sames), unlikes


def plain_put(links, bars, sames, unlikes):
    tied, parted = [same[1:] for same in sames], list(unlikes)
    links = [link for link in links if link[1:] not in tied + parted] + [(TOP,) + pair for pair in tied]
    bars = [bar for bar in bars if bar not in tied + parted] + parted
    return tuple(sorted(links, key=lambda link: (-link[0], link[1:]))), tuple(sorted(bars))


class NeedLotTest(unittest.TestCase):
    def check(self, value):
        fault = plain_fault(value)
        if fault is None:
            self.assertIs(need_lot(value), value)
        else:
            keeps(self, InvalidLot, fault, need_lot, value)
        return fault

    def test_lots_and_changed_ones(self):
        choice = chance(34)
        faults = {}
        for _ in range(80):
            lot = some_lot(choice, 12)
            self.assertIsNone(self.check(lot))
            for value in changed_values(lot, choice, 12):
                fault = self.check(value)
                faults[fault] = faults.get(fault, 0) + 1
        self.assertGreater(min(faults[fault] for fault in (None, -1, 0, 1, 2, 3)), 5)

    def test_by_hand(self):
        self.assertIsNone(self.check(()))
        self.assertIsNone(self.check(LOT))
        for word in [("put", ()), ("put", [3]), ("put", ("a", ["a"])), ("put", (("b", "a"),)), ("put", (("a", "a"),)), ("put", (True,)),
                     ("put", ("\n",)), ("put", "a"), ("put",), ("put", ("a",), ()), ("put", (("a", 1),)), ("put", ((None,),)),
                     ("change", (0, 0), ()), ("change", [0, 0], ("a",)), ("change", ("a",)), ("change", (0, 0), ("a",), 0),
                     ("change", (0, -1), ("a",)), ("same", (0, 0), (0, 0)), ("same", (0, 1), (0, 0)), ("same", (0, 0)),
                     ("unlike", (0, 1), (0, 0)), ("unlike", (0, 1), (0, True)), ("unlike", (0, 1), [0, 2]),
                     ("same", [0, 0], (0, 1)), ("unlike", (0, False), (0, 2)), ("same", (0,), (0, 2)), ("same", ((0, 0),), (1, 1)), ("rule", None), ("rule", ()),
                     ("rule", list(RULE)), ("rule", (RULE[0], 3, [])), ("rule",), ("day", [(0, 0)]), ("day", None), ("day", ([],)),
                     ("day", ((), ([],))), ("back", (0, 0)), ("puts", ("a",)), (), None, 3, "put", ["put", ("a",)], (["put"], ("a",)),
                     (None, ("a",))]:
            keeps(self, InvalidLot, 1, need_lot, (((0, 0), (0, 0), ("day", ())), ((0, 1), (1, 0), word), None))
        for row in [None, 3, (), ((0, 1), (1, 0)), [(0, 1), (1, 0), ("day", ())], ([0, 1], (1, 0), ("day", ())), ((0, 1), [1, 0], ("day", ())),
                    ((0, 1), (1, 1), ("day", ())), ((0, 1), (0, 0), ("day", ())), ((0, 0), (1, 0), ("day", ())),
                    ((0, True), (1, 0), ("day", ())), ((0, 1), (1, 0), ("day", ()), 0), ((0, 1), (1, False), ("day", ()))]:
            keeps(self, InvalidLot, 1, need_lot, (((0, 0), (0, 0), ("day", ())), row, None))
        for word in [("put", (None, 3, "a", ("", "b"), ())), ("change", (9, 9), (-10 ** 20,)), ("day", (None, (True,), "\n", -1)), ("day", ()),
                     ("same", (0, 0), (9, 9)), ("rule", RULE)]:
            self.assertIsNone(self.check((((3, 1), (7, 3), word),)))
        # Behind all rows: each rule takes all fields, idle changes' too.
        for word in [("put", (3,)), ("put", ("a", "b")), ("change", (9, 9), (3,)), ("change", (0, 0), (("a",),))]:
            keeps(self, InvalidLot, -1, need_lot, LOT + (((2, 0), (9, 2), word),))
            keeps(self, InvalidLot, 7, need_lot, LOT + (((2, 0), (9, 2), word), None))
        other = (((2, 0), (0, 2), ("rule", ((("apart", 0, 0, (0, 0, 0, 0)),), 0, ()))),)
        keeps(self, InvalidLot, -1, need_lot, LOT + other)
        self.assertIsNone(self.check(LOT[4:] + other))
        self.assertIsNone(self.check((((0, 0), (0, 0), ("put", ("a",))), ((0, 1), (1, 0), ("put", (3, ("a",)))))))

    def test_odd_values(self):
        for function in TELLERS + [need_lot]:
            for value in odd_values():
                check_ways(self, function, (value,))
                if value != ():
                    keeps(self, InvalidLot, 0 if type(value) is tuple else -1, function, value)
                keeps(self, InvalidLot, 1, function, (LOT[0], value))
                keeps(self, InvalidLot, 0, function, ((LOT[0][:2] + (value,)),))
            keeps(self, InvalidLot, -1, function, list(LOT))
            keeps(self, InvalidLot, 0, function, (list(LOT[0]),))
            check_ways(self, function, (LOT,))
            self.assertEqual(function(**{"value" if function is need_lot else "lot": LOT}), function(LOT))
        for value in odd_values():
            if value != ():
                keeps(self, InvalidLot, 0 if type(value) is tuple else -1, struck_lot, value, None)


class LotTest(unittest.TestCase):
    def test_against_plain_ways(self):
        choice = chance(341)
        found = [0] * 6
        for _ in range(250):
            lot = some_lot(choice)
            records, rule, beside, idle, names, sames, unlikes = plain_told(lot)
            self.assertTrue(same(lot_records(lot), records))
            self.assertTrue(same(lot_rule(lot), rule))
            self.assertTrue(same(beside_marks(lot), beside))
            self.assertTrue(same(idle_marks(lot), idle))
            self.assertTrue(same(hand_words(lot), (names, sames, unlikes)))
            links, bars = (plain_links(rule, records), rule_bars(rule, records)) if rule else ((), ())
            links, bars = plain_put(links, bars, sames, unlikes)
            self.assertTrue(same(lot_web(lot), (names, links, bars)))
            people = plain_run(names, links, bars)[2]
            self.assertTrue(same(told_people(lot), people))
            home = {name: group for group in people for name in group}
            refused = tuple(mark for mark, _, word in lot if word[0] == "same" and mark not in idle and home[word[1]] != home[word[2]])
            self.assertTrue(same(refused_sames(lot), refused))
            for at, part in enumerate((beside, idle, sames, unlikes, bars, refused)):
                found[at] += len(part)
            # Without words beside and idle ones, and with other ranks in the same order, the web is the same.
            self.assertTrue(same(lot_web(struck_lot(lot, beside)), (names, links, bars)))
            self.assertTrue(same(lot_web(struck_lot(lot, beside + idle)), (names, links, bars)))
            self.assertTrue(same(lot_web(rerank(choice, lot)), (names, links, bars)))
            for _ in range(3):
                struck = tuple(mark for mark in refused if choice.random() < 0.6)
                self.assertTrue(same(told_people(struck_lot(lot, struck)), people))
        self.assertGreater(min(found), 20)

    def test_by_hand(self):
        self.assertEqual(lot_records(LOT), (((0, 0), ("anna",)), ((1, 0), ("ann",))))
        self.assertEqual((lot_rule(LOT), beside_marks(LOT), idle_marks(LOT)), (RULE, (), ((1, 2),)))
        self.assertEqual(hand_words(LOT), (((0, 0), (1, 0)), ((1, (0, 0), (1, 0)),), ()))
        self.assertEqual(lot_web(LOT), (((0, 0), (1, 0)), ((TOP, (0, 0), (1, 0)),), ()))
        self.assertEqual(told_people(LOT), (((0, 0), (1, 0)),))
        self.assertEqual(told_people(()), ())
        # The put may have the greatest rank: then all its changes are beside, but it never is.
        lot = (((0, 0), (5, 0), ("put", ("a",))), ((0, 1), (1, 0), ("change", (0, 0), ("b",))), ((0, 2), (2, 0), ("change", (0, 0), ("c",))))
        self.assertEqual((lot_records(lot), beside_marks(lot)), ((((0, 0), ("a",)),), ((0, 1), (0, 2))))
        # Said the same and unlike: a link of weight TOP, and a bar.
        both = LOT[:5] + (((1, 2), (5, 1), ("unlike", (0, 0), (1, 0))), ((1, 3), (6, 1), ("same", (0, 0), (1, 0))))
        self.assertEqual(lot_web(both), (((0, 0), (1, 0)), ((TOP, (0, 0), (1, 0)),), (((0, 0), (1, 0)),)))
        self.assertEqual(hand_words(both)[1:], (((2, (0, 0), (1, 0)),), (((0, 0), (1, 0)),)))
        self.assertEqual(refused_sames(both), ((1, 1), (1, 3)))
        # Fields may look like a name.
        pairs = (((0, 0), (0, 0), ("put", (0, 0))), ((0, 1), (1, 0), ("put", (0, 1))), ((0, 2), (2, 0), ("day", (0, 0))))
        self.assertEqual(hand_words(pairs), (((0, 0), (0, 1)), (), ()))
        # Without a rule there are just the hands' words.
        self.assertEqual(lot_web(LOT[:2] + LOT[3:4]), (((0, 0), (1, 0)), (), ()))

    def test_struck_lots(self):
        self.assertTrue(same(struck_lot(LOT, ((0, 0), (1, 2))), LOT[1:5]))
        self.assertTrue(same(struck_lot(LOT, [[0, 0], [1, 2]]), LOT[1:5]))
        self.assertTrue(same(struck_lot(marks=(), lot=LOT), LOT))
        self.assertTrue(same(struck_lot(LOT, [(9, 9), (0, 1)]), LOT[:1] + LOT[2:]))
        self.assertTrue(same(struck_lot(LOT, [row[0] for row in LOT]), ()))


class PutWordsTest(unittest.TestCase):
    def some_hands(self, choice, names):
        pairs = list(itertools.combinations(names, 2))
        sames = [(choice.randint(1, 3),) + pair for pair in pairs if choice.random() < 0.3]
        unlikes = [pair for pair in pairs if choice.random() < 0.3]
        choice.shuffle(sames)
        choice.shuffle(unlikes)
        return tuple(sames), tuple(unlikes)

    def test_put_words(self):
        choice = chance(342)
        for _ in range(150):
            names, links, bars = some_case(choice, 7)
            sames, unlikes = self.some_hands(choice, names)
            told = plain_put(links, bars, sames, unlikes)
            self.assertTrue(same(put_words(names, links, bars, sames, unlikes), told))
            self.assertTrue(same(put_words(*in_lists((names, links, bars, sames, unlikes))), told))
            self.assertFalse(has_list(put_words(*in_lists((names, links, bars, sames, unlikes)))))
        names, pair = [(0, 0), (0, 1)], ((0, 0), (0, 1))
        self.assertEqual(put_words(names, [(9,) + pair], [pair], [(2,) + pair], []), (((TOP,) + pair,), ()))
        self.assertEqual(put_words(names, [(9,) + pair], [pair], [], [pair]), ((), (pair,)))
        self.assertEqual(put_words(names, [(TOP,) + pair], [pair], [], []), (((TOP,) + pair,), (pair,)))
        self.assertEqual(put_words(names, [], [], [(1,) + pair], [pair]), (((TOP,) + pair,), (pair,)))

    def test_errors(self):
        names, link, pair = ((0, 0), (0, 1), (0, 2)), (1, (0, 0), (0, 1)), ((0, 0), (0, 1))
        for value in odd_values():
            check_ways(self, put_words, (value, (), (), (), ()), lists=(0,))
            for at in range(1, 5):
                args = [names, (link,), (pair,), (link,), (pair,)]
                args[at] = value
                check_ways(self, put_words, args, lists=range(5))
                args[at] = ((link, pair)[at % 2 == 0], value)
                check_ways(self, put_words, args, lists=range(5))
        keeps(self, InvalidPeople, 1, put_words, [(0, 0), (0, 0)], None, None, None, None)
        keeps(self, InvalidLinks, 1, put_words, names, [link, link], None, None, None)
        keeps(self, InvalidBars, 0, put_words, names, [link], [link], None, None)
        for weight in (0, -1, True, None, "1"):
            keeps(self, InvalidLinks, 1, put_words, names, [(0,) + pair], [], [(1, (0, 1), (0, 2)), (weight,) + pair], None)
            # The first that is wrong, be it by its weight or otherwise.
            keeps(self, InvalidLinks, 0, put_words, names, [], [], [(weight,) + pair, None], None)
        keeps(self, InvalidLinks, -1, put_words, names, [], [], None, None)
        keeps(self, InvalidLinks, 1, put_words, names, [], [], [link, link], None)
        keeps(self, InvalidBars, 1, put_words, names, [], [], [link], [pair, pair])
        keeps(self, InvalidBars, -1, put_words, names, [], [], [link], "a")


if __name__ == "__main__":
    unittest.main()
