"""[50], [51]: answers that change the people, and unlikes that lead to told ones."""

import itertools
import unittest

from helpers import chance, check_ways, has_list, in_lists, keeps, odd_values, same
from test_deeds import plain_put
from test_people import form, plain_run
from test_papers import tied
from test_rings import all_parts
from whoiswho.errors import InvalidBars, InvalidIndex, InvalidLinks, InvalidPeople, InvalidSize, Refused
from whoiswho.people import rule_people
from whoiswho.questions import answered_people, leading_many, leading_paper, turning_answers

NAMES = ((0, 0), (0, 1), (0, 2))
LINKS = ((9, (0, 0), (0, 1)), (5, (0, 1), (0, 2)))
WEB = (NAMES, LINKS, ())
WORDS = WEB + ((), ())
GOAL = (NAMES[:2], NAMES[2:])


def some_words(choice, most=6):
    names = tuple(sorted(choice.sample([(house, number) for house in range(3) for number in range(4)], choice.randint(0, most))))
    pairs = list(itertools.combinations(names, 2))
    rows = []
    for share in (0.5, 0.15, 0.2, 0.15):
        row = [pair for pair in pairs if choice.random() < share]
        choice.shuffle(row)
        rows.append(row)
    links, bars, sames, unlikes = rows
    links = tuple((choice.randint(-1, 4),) + pair for pair in links)
    return names, links, tuple(bars), tuple((choice.randint(1, 3),) + pair for pair in sames), tuple(unlikes)


def plain_answered(words, word, pair):
    names, links, bars, sames, unlikes = words
    if word == "same":
        left = tuple(row for row in sames if row[1:] != pair)
        sames = left if len(left) < len(sames) else sames + ((1,) + pair,)
    else:
        unlikes = tuple(bar for bar in unlikes if bar != pair) if pair in unlikes else unlikes + (pair,)
    return plain_run(names, *plain_put(links, bars, sames, unlikes))[2]


class AnswersTest(unittest.TestCase):
    def test_answers(self):
        choice = chance(50)
        found = {"same": [0, 0], "unlike": [0, 0]}
        for _ in range(120):
            words = some_words(choice)
            names, links, bars, sames, unlikes = words
            people = plain_run(names, *plain_put(links, bars, sames, unlikes))[2]
            home = {name: group for group in people for name in group}
            rows = []
            for pair in itertools.combinations(names, 2):
                turns = []
                for word in ("same", "unlike"):
                    behind = plain_answered(words, word, pair)
                    self.assertTrue(same(answered_people(*words, word, *pair), behind))
                    turns.append(behind != people)
                    found[word][behind != people] += 1
                rows.append(pair + tuple(turns))
                is_one = home[pair[0]] == home[pair[1]]
                if pair not in unlikes:
                    self.assertIs(turns[1], is_one)
                stands = pair in [row[1:] for row in sames]
                if is_one and not stands or stands and not is_one:
                    self.assertIs(turns[0], False)
                if not is_one and not stands:
                    self.assertIs(turns[0], self.same_turns(words, pair))
            self.assertTrue(same(turning_answers(*words), tuple(rows)))
        self.assertGreater(min(found["same"] + found["unlike"]), 50)

    def same_turns(self, words, pair):
        """Whether a same put in of two persons turns them, as [50] tells it."""
        names, links, bars, sames, unlikes = words
        if pair in unlikes:
            return False
        links, barred = plain_put(links, bars, sames, unlikes)
        fates, stages, _ = plain_run(names, links, barred)
        place = (-10 ** 15,) + pair
        others = [bar for bar in barred if bar != pair]
        groups = [frozenset([name]) for name in names]
        for link, behind in zip(links, stages):
            if (-link[0],) + link[1:] > place:
                break
            if fates[links.index(link)] == "no" and pair in barred and not self.between(groups, link[1:], others):
                return True
            groups = behind
        return not self.between(groups, pair, others)

    def between(self, groups, ends, bars):
        one, other = [[group for group in groups if end in group][0] for end in ends]
        return any(a in one and b in other or a in other and b in one for a, b in bars)

    def test_by_hand(self):
        self.assertEqual(turning_answers(*WORDS), (((0, 0), (0, 1), False, True), ((0, 0), (0, 2), False, True),
                                                   ((0, 1), (0, 2), False, True)))
        self.assertEqual(turning_answers((), (), (), (), ()), ())
        # All sames of the pair are taken back; the other word stays.
        words = (NAMES, (), (), [(3, (0, 0), (0, 1))], [])
        self.assertEqual(answered_people(*words, "same", [0, 0], (0, 1)), tuple((name,) for name in NAMES))
        words = (NAMES, (), (), [(3, (0, 0), (0, 1))], [((0, 0), (0, 1))])
        self.assertEqual(answered_people(*words, "unlike", (0, 0), (0, 1)), (NAMES[:2], NAMES[2:]))
        self.assertEqual(answered_people(*words, "same", (0, 0), (0, 1)), tuple((name,) for name in NAMES))
        # An unlike taken back gives the rule's link again.
        self.assertEqual(answered_people(NAMES, LINKS, (), (), [((0, 1), (0, 2))], "unlike", (0, 1), (0, 2)), (NAMES,))

    def test_errors(self):
        for word in (None, "Same", 3, True, ["same"], "back", ("same",)):
            keeps(self, InvalidSize, "word", answered_people, *WORDS, word, None, None)
        for one, other in [((0, 1), (0, 0)), ((0, 0), (0, 0)), ((0, 0), (9, 9)), (None, (0, 1)), ((0, 0), True), ("ab", (0, 1)),
                           ((0, False), (0, 1))]:
            for word in ("same", "unlike"):
                keeps(self, InvalidIndex, -1, answered_people, *WORDS, word, one, other)
        pair = NAMES[:2]
        for function, rest in ((turning_answers, ()), (answered_people, (None, None, None))):
            keeps(self, InvalidPeople, -1, function, None, None, None, None, None, *rest)
            keeps(self, InvalidLinks, 1, function, NAMES, [LINKS[0], LINKS[0]], None, None, None, *rest)
            keeps(self, InvalidBars, 0, function, NAMES, LINKS, [LINKS[0]], None, None, *rest)
            keeps(self, InvalidLinks, 1, function, NAMES, LINKS, [pair], [LINKS[1], (0,) + pair], None, *rest)
            keeps(self, InvalidBars, 1, function, NAMES, LINKS, [pair], LINKS, [pair, pair], *rest)
            for at in range(5):
                for value in odd_values():
                    args = [NAMES, LINKS, (pair,), LINKS, (pair,)]
                    args[at] = value
                    check_ways(self, function, tuple(args) + rest, lists=range(5))
        for value in odd_values():
            for at in range(3):
                args = ["same", (0, 0), (0, 1)]
                args[at] = value
                check_ways(self, answered_people, WORDS + tuple(args), lists=range(5))
        check_ways(self, answered_people, WORDS + ("same", (0, 0), (0, 1)), lists=(0, 1, 2, 3, 4, 6, 7))
        check_ways(self, turning_answers, (NAMES, LINKS, (pair,), LINKS, (pair,)), lists=range(5))


def plain_leading(names, links, bars, parts):
    home = {name: group for group in parts for name in group}
    within = tuple(sorted(bar for bar in bars if home[bar[0]] == home[bar[1]]))
    if within:
        return ("barred", within)
    inner = [link for link in links if home[link[1]] == home[link[2]]]
    groups = plain_run(names, inner, ())[2]
    if groups != parts:
        return ("untied", groups)
    rows = []
    for link in sorted(links, key=lambda link: (-link[0], link[1:])):
        if home[link[1]] != home[link[2]]:
            ahead = [row for row in inner if (-row[0], row[1:]) < (-link[0], link[1:])]
            groups = plain_run(names, ahead, ())[2]
            one, other = [[group for group in groups if end in group][0] for end in link[1:]]
            apart = list(bars) + [row[0][1:] for row in rows]
            if not any(a in one and b in other or a in other and b in one for a, b in apart):
                rows.append((link, one, other))
    return ("rows", tuple(rows))


class LeadingTest(unittest.TestCase):
    def test_papers(self):
        choice = chance(51)
        found = {"barred": 0, "untied": 0, "rows": 0}
        lengths = {}
        for _ in range(80):
            names, links, bars, _, _ = some_words(choice, 5)
            for parts in all_parts(names):
                paper = leading_paper(names, links, bars, parts)
                found[paper[0]] += 1
                self.assertTrue(same(paper, plain_leading(names, links, bars, parts)))
                self.assertFalse(has_list(paper))
                if paper[0] != "rows":
                    keeps(self, Refused, -1, leading_many, names, links, bars, parts)
                    continue
                many, product = len(paper[1]), 1
                for _, one, other in paper[1]:
                    product *= len(one) * len(other)
                self.assertTrue(same(leading_many(names, links, bars, parts), (many, product)))
                lengths[many] = lengths.get(many, 0) + 1
        self.assertGreater(min(found.values()), 100)
        self.assertGreater(min(lengths[many] for many in range(4)), 5)

    def test_just_these_unlikes_lead_there(self):
        choice = chance(511)
        many = 0
        for _ in range(60):
            names, links, bars, _, _ = some_words(choice, 4)
            for parts in all_parts(names):
                home = {name: group for group in parts for name in group}
                between = [pair for pair in itertools.combinations(names, 2) if home[pair[0]] != home[pair[1]] and pair not in bars]
                paper = leading_paper(names, links, bars, parts)
                lots = [lot for size in range(len(between) + 1) for lot in itertools.combinations(between, size)]
                leading = [lot for lot in lots if rule_people(names, links, bars + lot) == parts]
                if paper[0] != "rows":
                    self.assertEqual(leading, [])
                    continue
                many += len(leading)
                told = [lot for lot in lots if all(any(set(pair) & set(one) and set(pair) & set(other) for pair in lot)
                                                   for _, one, other in paper[1])]
                self.assertEqual(leading, told)
                least = [lot for lot in leading if len(lot) == len(leading[0])]
                self.assertEqual(leading_many(names, links, bars, parts), (len(leading[0]), len(least)))
        self.assertGreater(many, 300)

    def test_untied(self):
        choice = chance(512)
        many = 0
        for _ in range(40):
            names, links, bars, _, _ = some_words(choice, 4)
            for parts in all_parts(names):
                paper = leading_paper(names, links, bars, parts)
                if paper[0] == "untied":
                    many += 1
                    lack = len(paper[1]) - len(parts)
                    self.assertGreater(lack, 0)
                    told = [link[1:] for link in links]
                    free = [pair for pair in itertools.combinations(names, 2) if pair not in told]
                    for size in range(lack + 1):
                        ways = [form(plain_run(names, links + tuple((99,) + pair for pair in lot), ())[2]) for lot in
                                itertools.combinations(free, size) if all(tied(links + tuple((99,) + pair for pair in lot), group)
                                                                          for group in parts)]
                        self.assertEqual(bool(ways), size == lack)
        self.assertGreater(many, 50)

    def test_by_hand(self):
        self.assertEqual(leading_paper(*WEB, GOAL), ("rows", (((5, (0, 1), (0, 2)), NAMES[:2], NAMES[2:]),)))
        self.assertEqual(leading_many(*WEB, GOAL), (1, 2))
        self.assertEqual(leading_many(*WEB, (NAMES,)), (0, 1))
        self.assertEqual(leading_paper((), (), (), ()), ("rows", ()))
        self.assertEqual(leading_paper(NAMES, LINKS, [((0, 0), (0, 1))], GOAL), ("barred", (((0, 0), (0, 1)),)))
        self.assertEqual(leading_paper(NAMES, LINKS[1:], [], GOAL), ("untied", tuple((name,) for name in NAMES)))
        # The groups are told by the link's one and other name, not by which is less.
        names, links = ((0, 0), (0, 1), (0, 2)), ((9, (0, 0), (0, 2)), (5, (0, 1), (0, 2)))
        self.assertEqual(leading_paper(names, links, (), (((0, 0), (0, 2)), ((0, 1),))),
                         ("rows", (((5, (0, 1), (0, 2)), ((0, 1),), ((0, 0), (0, 2))),)))
        # A row's link keeps apart what its groups grow to.
        names, links = ((0, 0), (0, 1), (0, 2)), ((9, (0, 0), (0, 2)), (5, (0, 0), (0, 1)), (4, (0, 1), (0, 2)))
        self.assertEqual(leading_many(names, links, (), (((0, 0), (0, 1)), ((0, 2),))), (1, 1))

    def test_errors(self):
        wrong = [None, 3, True, "ab", (), [NAMES], (list(NAMES),), (NAMES[:2],), (NAMES[::-1],), (NAMES[2:], NAMES[:2]), ((),) + GOAL,
                 (NAMES, NAMES), (NAMES + ((5, 5),),), in_lists(GOAL)]
        for function in (leading_paper, leading_many):
            for value in wrong:
                keeps(self, InvalidPeople, -1, function, *WEB, value)
            keeps(self, InvalidPeople, 0, function, [None], None, None, None)
            keeps(self, InvalidLinks, -1, function, NAMES, None, None, None)
            keeps(self, InvalidBars, -1, function, NAMES, LINKS, None, None)
            for value in odd_values():
                for at in range(4):
                    args = list(WEB) + [GOAL]
                    args[at] = value
                    check_ways(self, function, args, lists=(0, 1, 2))
            check_ways(self, function, WEB + (GOAL,), lists=(0, 1, 2))


if __name__ == "__main__":
    unittest.main()
