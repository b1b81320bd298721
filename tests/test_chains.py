"""[38]: the fewest sames to take back, and chains that show that no fewer will do."""

import itertools
import unittest

from helpers import chance, changed_values, check_ways, has_list, in_lists, keeps, odd_values, same
from test_papers import plain_name, tied
from test_rings import all_parts, plain_chain, ring_of, some_hands
from whoiswho.chains import chains_hold, fewest_back, fewest_chains, gap_web, kind_holds, unlike_kind
from whoiswho.errors import InvalidBars, InvalidLinks, InvalidPeople, Refused

NAMES = ((0, 0), (0, 1), (0, 2), (1, 0))
SAMES = ((2, (0, 0), (0, 1)), (1, (0, 1), (0, 2)), (3, (0, 2), (1, 0)))
UNLIKES = (((0, 0), (0, 2)),)
WEB = (NAMES, SAMES, UNLIKES)


def plain_lot(names, value):
    return type(value) is tuple and len(value) > 0 and all(map(plain_name, value)) and set(value) <= set(names) \
        and list(value) == sorted(set(value))


def pair(one, other):
    return tuple(sorted((one, other)))


def plain_kind(names, unlikes, value):
    """Whether a value is right, lots and bars in any order."""
    if type(value) is not tuple or not value or type(value[0]) is not str:
        return False
    word, rest = value[0], value[1:]
    if not unlikes:
        return same(value, ("all", (), ()))
    if word == "two":
        return len(rest) == 2 and len(unlikes) == 2 and not set(unlikes[0]) & set(unlikes[1]) and \
            (same(rest, tuple(unlikes)) or same(rest, tuple(unlikes)[::-1]))
    if not all(plain_lot(names, lot) for lot in rest) or len(rest) != {"all": 2, "web": 3}.get(word):
        return False
    if any(set(one) & set(other) for one, other in itertools.combinations(rest, 2)):
        return False
    if word == "all":
        return {pair(*both) for both in itertools.product(*rest)} == set(unlikes)
    return all(any(pair(*both) in unlikes for both in itertools.product(*lots)) for lots in itertools.combinations(rest, 2)) \
        and not any(bar[0] in lot and bar[1] in lot for bar in unlikes for lot in rest)


def plain_chains(names, sames, unlikes, value):
    if type(value) is not tuple or len(value) != 2 or type(value[0]) is not tuple or type(value[1]) is not tuple:
        return False
    pairs = [told[1:] for told in sames]
    back, chains = value
    if not all(any(same(one, known) for known in pairs) for one in back) or list(back) != sorted(set(back)):
        return False
    if ring_of(names, [one for one in pairs if one not in back], unlikes):
        return False
    if len(chains) != 2 * sum(weight for weight, *ends in sames if tuple(ends) in back):
        return False
    often = {one: 0 for one in pairs}
    for chain in chains:
        if not plain_chain(chain, pairs) or pair(chain[0], chain[-1]) not in unlikes:
            return False
        for step in zip(chain, chain[1:]):
            often[pair(*step)] += 1
    return all(often[tuple(ends)] <= 2 * weight for weight, *ends in sames)


def plain_fewest(names, sames, unlikes):
    """The fewest words between parts without an unlike within, of all parts."""
    least = None
    for parts in all_parts(names):
        home = {name: group for group in parts for name in group}
        if not any(home[one] == home[other] for one, other in unlikes):
            many = sum(weight for weight, one, other in sames if home[one] != home[other])
            least = many if least is None else min(least, many)
    return least


def some_unlikes(choice, names):
    """Unlikes of all kinds."""
    pairs = list(itertools.combinations(names, 2))
    kind = choice.random()
    if kind < 0.35 and len(names) > 1:
        one = choice.sample(names, choice.randint(1, len(names) - 1))
        other = [name for name in names if name not in one and choice.random() < 0.6]
        return [pair(a, b) for a in one for b in other]
    if kind < 0.7 and len(names) > 3:
        ends = choice.sample(names, 4)
        return [pair(*ends[:2]), pair(*ends[2:])]
    return choice.sample(pairs, min(len(pairs), choice.randint(0, 6)))


class KindTest(unittest.TestCase):
    def test_all_unlikes_of_five_names(self):
        names = NAMES + ((2, 2),)
        pairs = list(itertools.combinations(names, 2))
        found = {"all": 0, "two": 0, "web": 0}
        for lot in range(2 ** len(pairs)):
            unlikes = [one for at, one in enumerate(pairs) if lot >> at & 1]
            kind = unlike_kind(names, unlikes)
            found[kind[0]] += 1
            self.assertTrue(plain_kind(names, unlikes, kind), (unlikes, kind))
            self.assertIs(kind_holds(names, unlikes, kind), True)
            if kind[0] == "all" and unlikes:
                self.assertEqual(min(kind[1] + kind[2]), kind[1][0])
            if kind[0] == "two":
                self.assertLess(kind[1], kind[2])
            # No other kind is right.
            if lot % 16 == 0:
                for lots in itertools.permutations([(name,) for name in names], 3):
                    self.assertIs(kind_holds(names, unlikes, ("web",) + lots), plain_kind(names, unlikes, ("web",) + lots))
                    self.assertIs(kind_holds(names, unlikes, ("all",) + lots[:2]), plain_kind(names, unlikes, ("all",) + lots[:2]))
        self.assertEqual(found["two"], 15)
        self.assertGreater(found["all"], 60)

    def test_many_names(self):
        choice = chance(38)
        for _ in range(300):
            names = tuple((0, at) for at in range(choice.randint(0, 8)))
            unlikes = some_unlikes(choice, names)
            if choice.random() < 0.3:
                pairs = list(itertools.combinations(names, 2))
                unlikes = choice.sample(pairs, min(15, len(pairs)))
            kind = unlike_kind(names, unlikes)
            self.assertTrue(plain_kind(names, sorted(unlikes), kind))
            self.assertFalse(has_list(kind))
            turned = kind[:1] + tuple(choice.sample(kind[1:], len(kind) - 1))
            self.assertIs(kind_holds(names, unlikes, turned), True)
            for value in changed_values(kind, choice, 8):
                self.assertIs(kind_holds(names, unlikes, value), plain_kind(names, sorted(unlikes), value), (unlikes, value))

    def test_by_hand(self):
        a, b, c, d = NAMES
        self.assertTrue(same(unlike_kind(NAMES, ()), ("all", (), ())))
        self.assertIs(kind_holds(NAMES, (), ("all", (), (a,))), False)
        self.assertIs(kind_holds(NAMES, (), ("all", (), ())), True)
        self.assertTrue(same(unlike_kind(NAMES, [(b, d), (a, d)]), ("all", (a, b), (d,))))
        self.assertTrue(same(unlike_kind(NAMES, [(a, d), (a, b)]), ("all", (a,), (b, d))))
        self.assertTrue(same(unlike_kind(NAMES, [(b, d), (a, c)]), ("two", (a, c), (b, d))))
        self.assertIs(kind_holds(NAMES, [(b, d), (a, c)], ("two", (b, d), (a, c))), True)
        self.assertIs(kind_holds(NAMES, [(b, d), (a, c)], ("two", (a, c), (a, c))), False)
        self.assertIs(kind_holds(NAMES, [(a, d)], ("all", (d,), (a,))), True)
        # Two unlikes with a common name are all of two lots; lots are of the names alone.
        self.assertIs(kind_holds(NAMES, [(a, b), (a, d)], ("two", (a, b), (a, d))), False)
        self.assertIs(kind_holds(NAMES, [(a, b), (b, c), (a, c)], ("web", (a, (9, 9)), (b,), (c,))), False)
        self.assertIs(kind_holds(NAMES, [(a, b), (b, c), (a, c)], ("web", (a,), (b,), (c,))), True)
        self.assertEqual(unlike_kind(NAMES, [(a, b), (b, c), (a, c)])[0], "web")
        # A lot may have more names than it needs.
        self.assertIs(kind_holds(NAMES, [(a, b), (b, c), (a, c)], ("web", (a, d), (b,), (c,))), True)
        self.assertIs(kind_holds(NAMES, [(a, b), (b, c), (a, c)], ("web", (d, a), (b,), (c,))), False)
        for function, rest in ((unlike_kind, ()), (kind_holds, (None,)), (gap_web, ())):
            keeps(self, InvalidPeople, 1, function, [a, a], None, *rest)
            keeps(self, InvalidBars, 1, function, NAMES, [(a, b), (a, b)], *rest)
            for value in odd_values():
                check_ways(self, function, (value, (), *rest), lists=(0,))
                check_ways(self, function, (NAMES, value, *rest), lists=(0, 1))
        for value in odd_values():
            for unlikes in ((), UNLIKES, [(b, d), (a, c)]):
                self.assertIs(kind_holds(NAMES, unlikes, value), False)


class FewestTest(unittest.TestCase):
    def test_fewest_back(self):
        choice = chance(381)
        many = {}
        for _ in range(150):
            web = some_hands(choice, 6, 0.5)
            names, sames, unlikes = web
            told, parts = fewest_back(*web)
            many[told] = many.get(told, 0) + 1
            self.assertTrue(same(told, plain_fewest(*web)))
            self.assertIn(parts, all_parts(names))
            self.assertFalse(has_list(parts))
            self.assertTrue(all(tied(sames, group) for group in parts))
            home = {name: group for group in parts for name in group}
            self.assertFalse(any(home[one] == home[other] for one, other in unlikes))
            self.assertEqual(told, sum(weight for weight, one, other in sames if home[one] != home[other]))
        self.assertGreater(min(many[told] for told in range(4)), 8)
        self.assertEqual(fewest_back((), (), ()), (0, ()))
        self.assertEqual(fewest_back(*WEB), (1, (NAMES[:2], NAMES[2:])))
        big = tuple((0, at) for at in range(30))
        sames = [(1, big[at - 1], big[at]) for at in range(1, 30) if at % 5]
        self.assertEqual(fewest_back(big, sames, [(big[0], big[4]), (big[0], big[29])])[0], 1)

    def test_chains(self):
        choice = chance(382)
        found = {"all": 0, "two": 0, "web": 0}
        lengths = {}
        for _ in range(250):
            names, sames, _ = some_hands(choice, 8, 0.5)
            unlikes = some_unlikes(choice, names)
            kind = unlike_kind(names, unlikes)[0]
            found[kind] += 1
            if kind == "web":
                keeps(self, Refused, -1, fewest_chains, names, sames, unlikes)
                continue
            value = fewest_chains(names, sames, unlikes)
            self.assertTrue(plain_chains(names, sames, unlikes, value), (names, sames, unlikes, value))
            self.assertIs(chains_hold(names, sames, unlikes, value), True)
            words = len(value[1]) // 2
            lengths[words] = lengths.get(words, 0) + 1
            self.assertEqual(words, fewest_back(names, sames, unlikes)[0])
            turned = (value[0], tuple(chain[::choice.choice([1, -1])] for chain in choice.sample(value[1], len(value[1]))))
            self.assertIs(chains_hold(names, sames, unlikes, turned), True)
            for changed in changed_values(value, choice, 6):
                self.assertIs(chains_hold(names, sames, unlikes, changed), plain_chains(names, sames, unlikes, changed))
        self.assertGreater(min(found.values()), 30)
        self.assertGreater(min(lengths[words] for words in range(5)), 4)

    def test_halves_are_needed(self):
        # Two crossed pairs on a ring of four: chains by halves alone are as many as the words.
        ring = [pair(NAMES[at - 1], NAMES[at]) for at in range(4)]
        unlikes = (pair(NAMES[0], NAMES[2]), pair(NAMES[1], NAMES[3]))
        for weights in itertools.product((1, 2, 3), repeat=4):
            sames = [(weight,) + one for weight, one in zip(weights, ring)]
            value = fewest_chains(NAMES, sames, unlikes)
            self.assertTrue(plain_chains(NAMES, sames, unlikes, value))
        sames = [(1,) + one for one in ring]
        self.assertEqual(fewest_back(NAMES, sames, unlikes)[0], 2)
        self.assertEqual(len(fewest_chains(NAMES, sames, unlikes)[1]), 4)

    def test_gaps(self):
        choice = chance(383)
        many = 0
        for _ in range(100):
            names = tuple((choice.randint(0, 1), at) for at in range(choice.randint(3, 6)))
            names = tuple(sorted(set(names)))
            unlikes = some_unlikes(choice, names)
            if unlike_kind(names, unlikes)[0] != "web":
                keeps(self, Refused, -1, gap_web, names, unlikes)
                continue
            many += 1
            more, sames = gap_web(names, unlikes)
            self.assertTrue(same(more, names + ((1 + names[-1][0], 0),)))
            self.assertTrue(same(sames, tuple(sorted(sames, key=lambda told: (-told[0], told[1:])))))
            self.assertTrue(same(gap_web(in_lists(names), in_lists(unlikes)), (more, sames)))
            ones = [told for told in sames if told[0] == 1]
            self.assertTrue(len(ones) == 3 and all(told[2] == more[-1] for told in ones))
            lots = []
            for told in ones:
                lot = [told[1]]
                while [row for row in sames if row[0] == 2 and row[1] == lot[-1]]:
                    lot.append([row for row in sames if row[0] == 2 and row[1] == lot[-1]][0][2])
                lots.append(tuple(lot))
            self.assertEqual(len(sames), sum(map(len, lots)))
            self.assertTrue(plain_kind(names, unlikes, ("web",) + tuple(lots)))
            self.assertEqual(fewest_back(more, sames, unlikes)[0], 2)
            self.assertLessEqual(self.most_chains(more, sames, unlikes), 3)
        self.assertGreater(many, 12)

    def most_chains(self, names, sames, unlikes):
        """The most chains, each same in at most twice its weight of them, by going through all."""
        rooms = {told[1:]: 2 * told[0] for told in sames}
        chains = []
        for bar in unlikes:
            found = [(bar[0],)]
            for chain in found:
                if chain[-1] == bar[1]:
                    chains.append([pair(*step) for step in zip(chain, chain[1:])])
                    continue
                found += [chain + (end,) for one in rooms for end in one if chain[-1] in one and end not in chain]

        def most(at, rooms):
            if at == len(chains):
                return 0
            best = most(at + 1, rooms)
            if all(rooms[step] for step in chains[at]):
                best = max(best, 1 + most(at, {step: rooms[step] - chains[at].count(step) for step in rooms}))
            return best
        return most(0, rooms)

    def test_by_hand(self):
        self.assertEqual(fewest_chains(*WEB), ((((0, 1), (0, 2)),), (((0, 0), (0, 1), (0, 2)),) * 2))
        self.assertEqual(fewest_chains(NAMES, SAMES, ()), ((), ()))
        self.assertIs(chains_hold(NAMES, SAMES, (), ((), ())), True)
        self.assertIs(chains_hold(*WEB, ((), ())), False)
        value = ((((0, 1), (0, 2)),), (((0, 0), (0, 1), (0, 2)), ((0, 2), (0, 1), (0, 0))))
        self.assertIs(chains_hold(*WEB, value), True)
        self.assertIs(chains_hold(*WEB, in_lists(value)), False)
        self.assertIs(chains_hold(*WEB, (value[0], list(value[1]))), False)
        self.assertIs(chains_hold(*WEB, (value[0], value[1][:1])), False)
        self.assertIs(chains_hold(*WEB, (((((0, 0), (0, 1)),)), value[1] * 2)), False)
        # Each same is in at most twice its weight of the chains; pairs taken back are sames.
        ring = ((1, (0, 0), (0, 1)), (1, (0, 0), (0, 2)), (1, (0, 1), (0, 2)))
        straight, round_, back = ((0, 0), (0, 1)), ((0, 0), (0, 2), (0, 1)), (((0, 0), (0, 1)), ((0, 0), (0, 2)))
        for many in range(5):
            value = (back, (straight,) * many + (round_,) * (4 - many))
            self.assertIs(chains_hold(NAMES, ring, (straight,), value), many == 2)
        value = (back + (((0, 1), (1, 0)),), (straight,) * 2 + (round_,) * 2)
        self.assertIs(chains_hold(NAMES, ring, (straight,), value), False)
        # Papers of webs of any unlikes hold, too.
        unlikes = (((0, 0), (0, 1)), ((0, 0), (0, 2)), ((0, 1), (0, 2)))
        sames = ((1, (0, 0), (0, 1)), (1, (0, 1), (0, 2)))
        value = ((((0, 0), (0, 1)), ((0, 1), (0, 2))), (((0, 0), (0, 1)),) * 2 + (((0, 1), (0, 2)),) * 2)
        self.assertIs(chains_hold(NAMES, sames, unlikes, value), True)
        self.assertIs(chains_hold(NAMES, sames, unlikes, (value[0][::-1], value[1])), False)

    def test_errors(self):
        for function, rest in ((fewest_back, ()), (fewest_chains, ()), (chains_hold, (None,))):
            keeps(self, InvalidPeople, -1, function, None, None, None, *rest)
            keeps(self, InvalidLinks, 0, function, NAMES, [(0,) + SAMES[0][1:]], None, *rest)
            keeps(self, InvalidLinks, 1, function, NAMES, [SAMES[0], None], 3, *rest)
            keeps(self, InvalidBars, 0, function, NAMES, SAMES, [((0, 2), (0, 0))], *rest)
            for at in range(3):
                for value in odd_values():
                    args = list(WEB)
                    args[at] = value
                    check_ways(self, function, tuple(args) + rest, lists=(0, 1, 2))
            check_ways(self, function, WEB + rest, lists=(0, 1, 2))
        for value in odd_values():
            self.assertIs(chains_hold(*WEB, value), False)


if __name__ == "__main__":
    unittest.main()
