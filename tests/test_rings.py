"""[35] to [37]: rings of hands' words, least lots taken back, sames on rings."""

import itertools
import unittest

from helpers import chance, changed_values, check_ways, has_list, in_lists, keeps, odd_values, same
from test_papers import plain_name, plain_people, tied
from test_people import form, plain_run
from webs import partitions
from whoiswho.errors import InvalidBars, InvalidIndex, InvalidLinks, InvalidPeople, Refused
from whoiswho.rings import hands_hold, hands_paper, is_settled, same_holds, same_paper, settled_parts, steps_between, words_back

NAMES = ((0, 0), (0, 1), (0, 2), (1, 0))
SAMES = ((2, (0, 0), (0, 1)), (1, (0, 1), (0, 2)), (3, (0, 2), (1, 0)))
UNLIKES = (((0, 0), (0, 2)),)
WEB = (NAMES, SAMES, UNLIKES)
ALONE = tuple((name,) for name in NAMES)


def some_hands(choice, most=7, dense=0.4):
    names = tuple(sorted(choice.sample([(house, number) for house in range(3) for number in range(5)], choice.randint(0, most))))
    pairs = list(itertools.combinations(names, 2))
    sames = [(choice.randint(1, 3),) + pair for pair in pairs if choice.random() < dense][:10]
    unlikes = [pair for pair in pairs if choice.random() < 0.25]
    choice.shuffle(sames)
    choice.shuffle(unlikes)
    return names, tuple(sames), tuple(unlikes)


def all_parts(names):
    return [form([names[at] for at in group] for group in people) for people in partitions(len(names))]


def chains(pairs, start):
    """All chains of unlike names from a name on."""
    found = [(start,)]
    for chain in found:
        for pair in pairs:
            if chain[-1] in pair:
                other = pair[1 - pair.index(chain[-1])]
                if other not in chain:
                    found.append(chain + (other,))
    return found


def ring_of(names, sames, unlikes):
    """Whether some unlike's ends are tied by sames."""
    people = plain_run(names, [(1,) + tuple(pair) for pair in sames], ())[2]
    return any(set(bar) <= set(group) for bar in unlikes for group in people)


def all_rings(sames, unlikes):
    pairs = [same_[1:] for same_ in sames]
    return [(bar, chain) for bar in sorted(unlikes) for chain in chains(pairs, bar[0]) if chain[-1] == bar[1]]


def plain_chain(value, pairs):
    if type(value) is not tuple or not value or not all(map(plain_name, value)) or len(set(value)) < len(value):
        return False
    return all(tuple(sorted(step)) in pairs for step in zip(value, value[1:]))


def plain_ring(pairs, unlikes, bar, chain):
    return any(same(bar, unlike) for unlike in unlikes) and plain_chain(chain, pairs) and (chain[0], chain[-1]) == bar


def plain_hold(names, sames, unlikes, value):
    pairs = [same_[1:] for same_ in sames]
    if type(value) is not tuple or len(value) < 2 or type(value[0]) is not str:
        return False
    if value[0] == "kept" and len(value) == 2:
        if not plain_people(names, value[1]):
            return False
        within = [pair for pair in itertools.combinations(names, 2) if any(set(pair) <= set(group) for group in value[1])]
        return all(pair in within for pair in pairs) and not any(bar in within for bar in unlikes)
    return value[0] == "ring" and len(value) == 3 and plain_ring(pairs, unlikes, *value[1:])


def kept(sames, unlikes, parts):
    """The words that parts keep."""
    home = {name: group for group in parts for name in group}
    return {("same",) + pair[1:] for pair in sames if home[pair[1]] == home[pair[2]]} | \
        {("unlike",) + bar for bar in unlikes if home[bar[0]] != home[bar[1]]}


def is_free(names, words):
    return not ring_of(names, [word[1:] for word in words if word[0] == "same"], [word[1:] for word in words if word[0] == "unlike"])


def plain_settled(names, sames, unlikes, parts):
    home = {name: group for group in parts for name in group}
    if not all(tied(sames, group) for group in parts):
        return False
    between = {frozenset((home[bar[0]], home[bar[1]])) for bar in unlikes}
    return all(home[pair[1]] == home[pair[2]] or frozenset((home[pair[1]], home[pair[2]])) in between for pair in sames)


def least_backs(names, sames, unlikes):
    """All least lots of words to take back, by going through all lots of them."""
    words = sorted([("same",) + pair[1:] for pair in sames] + [("unlike",) + bar for bar in unlikes])
    lots = []
    for many in range(len(words) + 1):
        for lot in itertools.combinations(words, many):
            left = [word for word in words if word not in lot]
            if is_free(names, left) and not any(is_free(names, left + [word]) for word in lot):
                lots.append(lot)
    return lots


class HandsTest(unittest.TestCase):
    def test_papers(self):
        choice = chance(35)
        found = {"kept": 0, "ring": 0}
        for _ in range(300):
            web = some_hands(choice, 7, choice.choice([0.2, 0.5]))
            names, sames, unlikes = web
            rings = all_rings(sames, unlikes)
            paper = hands_paper(*web)
            found[paper[0]] += 1
            self.assertEqual(paper[0], "ring" if rings else "kept")
            self.assertTrue(plain_hold(*web, paper))
            self.assertIs(hands_hold(*web, paper), True)
            if rings:
                self.assertEqual(len(paper[2]), min(len(chain) for _, chain in rings))
                for ring in rings[:9]:
                    self.assertIs(hands_hold(*web, ("ring",) + ring), True)
                    self.assertIs(hands_hold(*web, ("ring", ring[0], ring[1][::-1])), False)
            for value in changed_values(paper, choice, 8):
                self.assertIs(hands_hold(*web, value), plain_hold(*web, value), (web, value))
            if len(names) < 5:
                for parts in all_parts(names):
                    self.assertIs(hands_hold(*web, ("kept", parts)), plain_hold(*web, ("kept", parts)))
        self.assertGreater(min(found.values()), 80)

    def test_by_hand(self):
        self.assertEqual(hands_paper(*WEB), ("ring", ((0, 0), (0, 2)), ((0, 0), (0, 1), (0, 2))))
        self.assertEqual(hands_paper((), (), ()), ("kept", ()))
        self.assertEqual(hands_paper(NAMES, (), UNLIKES), ("kept", ALONE))
        self.assertIs(hands_hold(NAMES, (), UNLIKES, ("kept", (NAMES[:2], NAMES[2:]))), True)
        self.assertIs(hands_hold(NAMES, (), UNLIKES, ("kept", [NAMES[:2], NAMES[2:]])), False)
        self.assertIs(hands_hold(NAMES, (), (), ("kept", (NAMES,))), True)
        self.assertIs(hands_hold(NAMES, (), UNLIKES, ("kept", (NAMES,))), False)
        # The fewest names of all unlikes' rings, not of the first one's.
        unlikes = (((0, 0), (1, 0)), ((0, 2), (1, 0)))
        self.assertEqual(hands_paper(NAMES, SAMES, unlikes), ("ring", ((0, 2), (1, 0)), ((0, 2), (1, 0))))
        self.assertIs(hands_hold(NAMES, SAMES, unlikes, ("ring", ((0, 0), (1, 0)), NAMES)), True)


class SettledTest(unittest.TestCase):
    def test_all_least_lots(self):
        choice = chance(36)
        many = 0
        for _ in range(120):
            web = some_hands(choice, 5, 0.5)
            names, sames, unlikes = web
            if len(sames) + len(unlikes) > 9:
                continue
            parts = [lot for lot in all_parts(names) if plain_settled(*web, lot)]
            self.assertTrue(same(settled_parts(*web), tuple(sorted(parts))))
            backs = []
            for lot in all_parts(names):
                self.assertIs(is_settled(*web, lot), lot in parts)
                home = {name: group for group in lot for name in group}
                between = tuple(sorted(pair[1:] for pair in sames if home[pair[1]] != home[pair[2]]))
                within = tuple(sorted(bar for bar in unlikes if home[bar[0]] == home[bar[1]]))
                self.assertTrue(same(words_back(*web, lot), (between, within)))
                if lot in parts:
                    backs.append(tuple(("same",) + pair for pair in between) + tuple(("unlike",) + bar for bar in within))
            self.assertEqual(sorted(backs), sorted(least_backs(*web)))
            many += len(backs)
        self.assertGreater(many, 250)

    def test_many_names(self):
        choice = chance(361)
        for _ in range(12):
            web = some_hands(choice, 8, 0.3)
            self.assertEqual(settled_parts(*web), tuple(sorted(lot for lot in all_parts(web[0]) if plain_settled(*web, lot))))

    def check_steps(self, web, parts, goal):
        names, sames, unlikes = web
        steps = steps_between(*web, parts, goal)
        self.assertFalse(has_list(steps))
        self.assertEqual((steps[0], steps[-1]), (parts, goal))
        ours = kept(sames, unlikes, goal)
        for ahead, behind in zip(steps, steps[1:]):
            self.assertTrue(plain_settled(*web, behind))
            first, second = kept(sames, unlikes, ahead), kept(sames, unlikes, behind)
            self.assertLessEqual(first & ours, second)
            more = (second & ours) - first
            self.assertTrue(more)
            self.assertTrue(any(all(not is_free(names, (first & second) | {word, lost}) for lost in first - second) for word in more))
        return len(steps)

    def test_steps(self):
        choice = chance(362)
        lengths = {}
        for _ in range(120):
            web = some_hands(choice, 7, 0.5)
            settled = settled_parts(*web)
            for _ in range(4):
                many = self.check_steps(web, choice.choice(settled), choice.choice(settled))
                lengths[many] = lengths.get(many, 0) + 1
        self.assertGreater(min(lengths[many] for many in (1, 2, 3)), 20)
        self.assertGreater(max(lengths), 3)

    def test_by_hand(self):
        self.assertEqual(settled_parts((), (), ()), ((),))
        self.assertEqual(steps_between((), (), (), (), ()), ((),))
        whole, one, other = (NAMES,), (NAMES[:2], NAMES[2:]), (NAMES[:1], NAMES[1:])
        self.assertEqual(settled_parts(*WEB), tuple(sorted([whole, one, other])))
        self.assertEqual(words_back(*WEB, whole), ((), UNLIKES))
        self.assertEqual(words_back(*WEB, ALONE), ((((0, 0), (0, 1)), ((0, 1), (0, 2)), ((0, 2), (1, 0))), ()))
        self.assertIs(is_settled(*WEB, ALONE), False)
        self.assertEqual(steps_between(*WEB, one, one), (one,))
        self.assertEqual(steps_between(*WEB, one, other), (one, other))

    def test_errors(self):
        whole = (NAMES,)
        wrong = [None, 3, True, "ab", (), [NAMES], (list(NAMES),), (NAMES[:3],), (NAMES[::-1],), (NAMES[2:], NAMES[:2]), ((),) + whole,
                 (NAMES, NAMES), ((NAMES[0],), NAMES), (NAMES + ((5, 5),),), ((NAMES[0], [0, 1]), NAMES[2:])]
        for value in wrong:
            for function in (is_settled, words_back):
                keeps(self, InvalidPeople, -1, function, *WEB, value)
            keeps(self, InvalidPeople, -1, steps_between, *WEB, value, None)
            keeps(self, InvalidPeople, -1, steps_between, *WEB, ALONE, value)
            keeps(self, InvalidPeople, -1, steps_between, *WEB, value, whole)
        keeps(self, Refused, 0, steps_between, *WEB, ALONE, ALONE)
        keeps(self, Refused, 1, steps_between, *WEB, whole, ALONE)
        for value in odd_values():
            for function in (is_settled, words_back):
                check_ways(self, function, WEB + (value,), lists=(0, 1, 2))
            check_ways(self, steps_between, WEB + (whole, value), lists=(0, 1, 2))
        check_ways(self, steps_between, WEB + (whole, (NAMES[:1], NAMES[1:])), lists=(0, 1, 2))
        check_ways(self, settled_parts, WEB, lists=(0, 1, 2))
        keeps(self, InvalidPeople, -1, is_settled, *WEB, in_lists(whole))


def plain_gate(pairs, pair, bar, name):
    return all(name in chain for end in pair for chain in chains(pairs, end) if chain[-1] in bar)


def plain_same(web, pair, value):
    names, sames, unlikes = web
    pairs = [same_[1:] for same_ in sames]
    if type(value) is not tuple or len(value) < 2 or type(value[0]) is not str:
        return False
    if value[0] == "ring" and len(value) == 3:
        return plain_ring(pairs, unlikes, *value[1:]) and pair in [tuple(sorted(step)) for step in zip(value[2], value[2][1:])]
    if value[0] != "free" or len(value) != 2 or type(value[1]) is not tuple or len(value[1]) != len(unlikes):
        return False
    for bar, row in zip(sorted(unlikes), value[1]):
        if type(row) is not tuple or len(row) != 2 or not same(row[0], bar) or not any(same(row[1], name) for name in names):
            return False
        if not plain_gate(pairs, pair, bar, row[1]):
            return False
    return True


class SameTest(unittest.TestCase):
    def test_papers(self):
        choice = chance(37)
        found = {"ring": 0, "free": 0}
        for _ in range(150):
            web = some_hands(choice, 6, choice.choice([0.3, 0.5]))
            rings = all_rings(*web[1:])
            for _, one, other in web[1]:
                on = [ring for ring in rings if (one, other) in [tuple(sorted(step)) for step in zip(ring[1], ring[1][1:])]]
                paper = same_paper(*web, one, other)
                found[paper[0]] += 1
                self.assertEqual(paper[0], "ring" if on else "free")
                self.assertTrue(plain_same(web, (one, other), paper), (web, one, other, paper))
                self.assertIs(same_holds(*web, one, other, paper), True)
                for ring in on[:5]:
                    self.assertIs(same_holds(*web, one, other, ("ring",) + ring), True)
                for value in changed_values(paper, choice, 5):
                    self.assertIs(same_holds(*web, one, other, value), plain_same(web, (one, other), value), (web, one, other, value))
                for name in web[0]:
                    value = ("free", tuple((bar, name) for bar in sorted(web[2])))
                    self.assertIs(same_holds(*web, one, other, value), plain_same(web, (one, other), value))
        self.assertGreater(min(found.values()), 70)

    def test_least_lots_have_just_those_on_rings(self):
        choice = chance(371)
        many = 0
        for _ in range(60):
            web = some_hands(choice, 5, 0.5)
            if len(web[1]) + len(web[2]) < 9:
                taken = {word for lot in least_backs(*web) for word in lot}
                for _, one, other in web[1]:
                    self.assertEqual(same_paper(*web, one, other)[0] == "ring", ("same", one, other) in taken)
                    many += 1
        self.assertGreater(many, 60)

    def test_by_hand(self):
        self.assertEqual(same_paper(*WEB, (0, 2), (1, 0)), ("free", ((UNLIKES[0], (0, 2)),)))
        self.assertEqual(same_paper(*WEB, [0, 1], [0, 2])[0], "ring")
        # An unlike on the same's own pair is a ring with it.
        own = (NAMES, SAMES, (((0, 0), (0, 1)),))
        self.assertEqual(same_paper(*own, (0, 0), (0, 1)), ("ring", ((0, 0), (0, 1)), ((0, 0), (0, 1))))
        # No chain leads from one of both to an end: any name will do, but it must be one.
        far = (NAMES + ((7, 7), (7, 8)), SAMES, (((7, 7), (7, 8)),))
        for name in far[0]:
            self.assertIs(same_holds(*far, (0, 0), (0, 1), ("free", ((far[2][0], name),))), True)
        self.assertIs(same_holds(*far, (0, 0), (0, 1), ("free", ((far[2][0], (9, 9)),))), False)
        self.assertEqual(same_paper(NAMES, SAMES, (), (0, 0), (0, 1)), ("free", ()))
        # Unlikes ascending, whatever their order.
        two = (NAMES, SAMES[:1], (((0, 2), (1, 0)), ((0, 1), (0, 2))))
        rows = tuple((bar, (0, 1)) for bar in sorted(two[2]))
        self.assertIs(same_holds(*two, (0, 0), (0, 1), ("free", rows)), True)
        self.assertIs(same_holds(*two, (0, 0), (0, 1), ("free", rows[::-1])), False)

    def test_errors(self):
        for one, other in [((0, 1), (0, 0)), ((0, 0), (0, 2)), ((0, 0), (0, 0)), ((0, 0), (9, 9)), (None, (0, 1)), ((0, 0), True),
                           ("ab", (0, 1)), ((0, False), (0, 1)), (3, 4)]:
            keeps(self, InvalidIndex, -1, same_paper, *WEB, one, other)
            keeps(self, InvalidIndex, -1, same_holds, *WEB, one, other, None)
        for value in odd_values():
            check_ways(self, same_paper, WEB + (value, (0, 1)), lists=range(5))
            check_ways(self, same_paper, WEB + ((0, 0), value), lists=range(5))
            self.assertIs(same_holds(*WEB, (0, 0), (0, 1), value), False)
            self.assertIs(same_holds(*WEB, (0, 2), (1, 0), ("free", ((UNLIKES[0], value),))), False)
        check_ways(self, same_holds, WEB + ((0, 2), (1, 0), ("free", ((UNLIKES[0], (0, 2)),))), lists=range(5))
        self.assertIs(same_holds(*WEB, (0, 2), (1, 0), ("free", [(UNLIKES[0], (0, 2))])), False)
        self.assertIs(same_holds(*WEB, (0, 2), (1, 0), ("free", ((UNLIKES[0], [0, 2]),))), False)


class WebErrorsTest(unittest.TestCase):
    def test_the_first_wrong_one(self):
        functions = [(hands_paper, ()), (hands_hold, (None,)), (is_settled, (None,)), (words_back, (None,)), (settled_parts, ()),
                     (steps_between, (None, None)), (same_paper, (None, None)), (same_holds, (None, None, None))]
        for function, rest in functions:
            keeps(self, InvalidPeople, -1, function, None, None, None, *rest)
            keeps(self, InvalidPeople, 1, function, [(0, 1), (0, 0)], 3, 3, *rest)
            keeps(self, InvalidLinks, -1, function, NAMES, "a", None, *rest)
            keeps(self, InvalidLinks, 1, function, NAMES, [SAMES[0], (0,) + SAMES[1][1:], None], None, *rest)
            keeps(self, InvalidLinks, 1, function, NAMES, SAMES[:1] * 2, None, *rest)
            keeps(self, InvalidBars, 0, function, NAMES, SAMES, [((0, 2), (0, 0)), None], *rest)
            keeps(self, InvalidBars, -1, function, NAMES, SAMES, 7, *rest)
            for at in range(3):
                for value in odd_values():
                    args = list(WEB)
                    args[at] = value
                    check_ways(self, function, tuple(args) + rest, lists=(0, 1, 2))
        for value in odd_values():
            self.assertIs(hands_hold(*WEB, value), False)
        check_ways(self, hands_paper, WEB, lists=(0, 1, 2))


if __name__ == "__main__":
    unittest.main()
