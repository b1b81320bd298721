"""[53]: parts that stay even if some answers are wrong, and the answers that this needs."""

import itertools
import unittest

from helpers import chance, changed_values, check_ways, has_list, in_lists, keeps, odd_values, same
from test_people import form, plain_run
from test_rings import all_parts, plain_chain
from whoiswho.errors import InvalidLinks, InvalidPeople, InvalidSize
from whoiswho.surely import fewest_answers, firm_holds, firm_paper, further_answers

PARTS = (((0, 0), (0, 1)), ((0, 2),))
ANSWERS = ((2, (0, 0), (0, 1)), (1, (0, 1), (0, 2)))


def some_parts(choice, most=7):
    names = sorted(choice.sample([(house, number) for house in range(3) for number in range(5)], choice.randint(0, most)))
    homes = [choice.randint(0, 2) for _ in names]
    return form([[name for name, home in zip(names, homes) if home == at] for at in set(homes)])


def some_answers(choice, parts, most=15, dense=0.5):
    names = sorted(name for part in parts for name in part)
    home = {name: part for part in parts for name in part}
    answers = []
    for one, other in itertools.combinations(names, 2):
        if choice.random() < (dense + 0.2 if home[one] == home[other] else dense):
            answers.append((choice.choice([1, 1, 2, 3]), one, other))
    choice.shuffle(answers)
    return tuple(answers[:most])


def between(answers, one, other):
    return sum(weight for weight, a, b in answers if a in one and b in other or a in other and b in one)


def is_firm(parts, answers, wrong):
    """Whether no other parts of the names have at most so many answers that don't say so."""
    names = sorted(name for part in parts for name in part)
    home = {name: part for part in parts for name in part}
    for other in all_parts(names):
        if other != parts:
            theirs = {name: part for part in other for name in part}
            if sum(weight for weight, a, b in answers if (home[a] == home[b]) != (theirs[a] == theirs[b])) <= wrong:
                return False
    return True


def plain_holds(parts, answers, wrong, value):
    if type(value) is not tuple or len(value) < 2 or type(value[0]) is not str:
        return False
    if value[0] == "joined":
        return len(value) == 3 and all(type(at) is int and 0 <= at < len(parts) for at in value[1:]) and value[1] < value[2] \
            and between(answers, parts[value[1]], parts[value[2]]) <= wrong
    if value[0] == "split":
        if len(value) != 3 or type(value[1]) is not int or not 0 <= value[1] < len(parts) or type(value[2]) is not tuple:
            return False
        part, lot = parts[value[1]], value[2]
        if not lot or not all(any(same(name, known) for known in part) for name in lot) or list(lot) != sorted(set(lot)):
            return False
        rest = [name for name in part if name not in lot]
        return bool(rest) and between(answers, lot, rest) <= wrong
    if value[0] != "firm" or len(value) != 2 or type(value[1]) is not tuple or len(value[1]) != len(parts):
        return False
    if any(between(answers, one, other) <= wrong for one, other in itertools.combinations(parts, 2)):
        return False
    for part, rows in zip(parts, value[1]):
        within = {answer[1:]: answer[0] for answer in answers if set(answer[1:]) <= set(part)}
        if type(rows) is not tuple or len(rows) != len(part) - 1:
            return False
        for name, chains in zip(part[1:], rows):
            if type(chains) is not tuple or len(chains) != wrong + 1:
                return False
            steps = []
            for chain in chains:
                if not plain_chain(chain, list(within)) or (chain[0], chain[-1]) != (part[0], name):
                    return False
                steps += [tuple(sorted(step)) for step in zip(chain, chain[1:])]
            if any(steps.count(step) > within[step] for step in steps):
                return False
    return True


def added(*rows):
    told = {}
    for answer in itertools.chain(*rows):
        told[answer[1:]] = told.get(answer[1:], 0) + answer[0]
    return tuple((often,) + pair for pair, often in told.items())


def in_order(answers):
    return tuple(sorted(answers, key=lambda answer: (-answer[0], answer[1:])))


class FirmTest(unittest.TestCase):
    def test_papers(self):
        choice = chance(53)
        found = {"firm": 0, "split": 0, "joined": 0}
        for _ in range(150):
            parts = some_parts(choice, 6)
            answers = some_answers(choice, parts, 15, choice.choice([0.3, 0.9]))
            for wrong in range(5):
                paper = firm_paper(parts, answers, wrong)
                found[paper[0]] += 1
                self.assertTrue(plain_holds(parts, answers, wrong, paper), (parts, answers, wrong, paper))
                self.assertIs(firm_holds(parts, answers, wrong, paper), True)
                self.assertFalse(has_list(paper))
                if len(parts) < 6 and wrong < 3:
                    self.assertEqual(paper[0] == "firm", is_firm(parts, answers, wrong))
                for value in changed_values(paper, choice, 4):
                    self.assertIs(firm_holds(parts, answers, wrong, value), plain_holds(parts, answers, wrong, value))
                for one, other in itertools.combinations(range(len(parts)), 2):
                    value = ("joined", one, other)
                    self.assertIs(firm_holds(parts, answers, wrong, value), plain_holds(parts, answers, wrong, value))
                for number, part in enumerate(parts):
                    value = ("split", number, tuple(sorted(choice.sample(part, choice.randint(1, len(part))))))
                    self.assertIs(firm_holds(parts, answers, wrong, value), plain_holds(parts, answers, wrong, value))
        self.assertGreater(min(found.values()), 80)

    def test_by_hand(self):
        self.assertEqual(firm_paper(PARTS, ANSWERS, 1), ("joined", 0, 1))
        self.assertEqual(firm_paper(PARTS, ANSWERS, 0), ("firm", (((((0, 0), (0, 1)),),), ())))
        self.assertEqual(firm_paper(PARTS, ((1, (0, 1), (0, 2)),), 0), ("split", 0, ((0, 0),)))
        self.assertEqual(firm_paper((), (), 0), ("firm", ()))
        self.assertEqual(firm_paper((((0, 0),),), (), 7), ("firm", ((),)))
        self.assertIs(firm_holds(PARTS, ANSWERS, 1, ("firm", (((((0, 0), (0, 1)),) * 2,), ()))), False)
        twice = ((2, (0, 0), (0, 1)), (2, (0, 1), (0, 2)))
        self.assertIs(firm_holds(PARTS, twice, 1, ("firm", (((((0, 0), (0, 1)),) * 2,), ()))), True)
        self.assertIs(firm_holds(PARTS, twice, 1, ("firm", [((((0, 0), (0, 1)),) * 2,), ()])), False)
        self.assertIs(firm_holds(PARTS, twice, 1, ("firm", (((((0, 0), (0, 1)),),), ()))), False)
        # Each answer in no more of a name's chains than it is said.
        part, ring = ((0, 0), (0, 1), (0, 2)), ((1, (0, 0), (0, 1)), (1, (0, 0), (0, 2)), (1, (0, 1), (0, 2)))
        second = (((0, 0), (0, 2)), ((0, 0), (0, 1), (0, 2)))
        for first, held in (((((0, 0), (0, 1)),) * 2, False), ((((0, 0), (0, 1)), ((0, 0), (0, 2), (0, 1))), True)):
            self.assertIs(firm_holds((part,), ring, 1, ("firm", ((first, second),))), held)
        self.assertIs(firm_holds(PARTS, ANSWERS, 1, ("joined", False, True)), False)
        self.assertIs(firm_holds(PARTS, ANSWERS, 1, ("joined", 1, 0)), False)


class FewestTest(unittest.TestCase):
    def test_fewest(self):
        choice = chance(531)
        for _ in range(200):
            parts = some_parts(choice, 9)
            for wrong in range(6):
                answers = fewest_answers(parts, wrong)
                many = (wrong + 1) * len(parts) * (len(parts) - 1) // 2
                for part in parts:
                    many += 0 if len(part) == 1 else len(part) - 1 if wrong == 0 else ((wrong + 1) * len(part) + 1) // 2
                self.assertEqual(sum(answer[0] for answer in answers), many)
                self.assertTrue(same(answers, in_order(answers)))
                self.assertEqual(firm_paper(parts, answers, wrong)[0], "firm")
        self.assertTrue(same(fewest_answers((), 3), ()))
        self.assertTrue(same(fewest_answers((((0, 0),),), 3), ()))
        self.assertTrue(same(fewest_answers(PARTS[:1], 3), ((4, (0, 0), (0, 1)),)))

    def test_no_fewer(self):
        # All lots of fewer answers, gone through: none is firm.
        for size in range(1, 5):
            part = tuple((0, at) for at in range(size))
            pairs = list(itertools.combinations(part, 2))
            for wrong in range(3):
                many = sum(answer[0] for answer in fewest_answers((part,), wrong))
                for lot in itertools.combinations_with_replacement(pairs, many - 1) if many else ():
                    answers = added(*[((1,) + pair,) for pair in lot])
                    self.assertNotEqual(firm_paper((part,), answers, wrong)[0], "firm")

    def plain_further(self, parts, answers, wrong):
        """How many more, as [53] tells it."""
        many = sum(max(0, wrong + 1 - between(answers, one, other)) for one, other in itertools.combinations(parts, 2))
        for part in parts:
            within = [answer for answer in answers if set(answer[1:]) <= set(part)]
            if wrong == 0:
                many += len(plain_run(part, within, ())[2]) - 1
                continue
            bridges = [row for row in within if row[0] == 1 and not any(
                set(row[1:]) <= set(group) for group in plain_run(part, [other for other in within if other != row], ())[2])]
            blocks = plain_run(part, [row for row in within if row not in bridges], ())[2]
            if len(blocks) > 1:
                ties = [sum(len(set(row[1:]) & set(block)) for row in bridges) for block in blocks]
                many += (ties.count(1) + 2 * ties.count(0) + 1) // 2
        return many

    def test_further(self):
        choice = chance(532)
        found = {}
        for _ in range(400):
            parts = some_parts(choice, choice.choice([5, 9, 14]))
            answers = some_answers(choice, parts, 15, choice.choice([0, 0.1, 0.3]))
            if choice.random() < 0.3:
                answers = tuple((1,) + answer[1:] for answer in answers)
            for wrong in range(2):
                more = further_answers(parts, answers, wrong)
                many = sum(answer[0] for answer in more)
                self.assertEqual(many, self.plain_further(parts, answers, wrong))
                self.assertTrue(same(more, in_order(more)))
                self.assertEqual(firm_paper(parts, added(answers, more), wrong)[0], "firm", (parts, answers, more))
                found[many] = found.get(many, 0) + 1
        self.assertGreater(min(found[many] for many in range(6)), 8)

    def test_no_fewer_further(self):
        choice = chance(533)
        many = 0
        for _ in range(60):
            parts = some_parts(choice, 4)
            answers = some_answers(choice, parts, 4, 0.3)
            pairs = list(itertools.combinations(sorted(name for part in parts for name in part), 2))
            for wrong in range(2):
                fewest = sum(answer[0] for answer in further_answers(parts, answers, wrong))
                if 0 < fewest < 5:
                    many += 1
                    for lot in itertools.combinations_with_replacement(pairs, fewest - 1):
                        more = added(answers, *[((1,) + pair,) for pair in lot])
                        self.assertNotEqual(firm_paper(parts, more, wrong)[0], "firm")
        self.assertGreater(many, 30)

    def test_trees_by_hand(self):
        # Blocks alone put in a row, the ends of a star by halves.
        names = tuple((0, at) for at in range(6))
        self.assertEqual(sum(row[0] for row in further_answers((names,), (), 1)), 6)
        star = [(1, names[0], names[at]) for at in range(1, 6)]
        self.assertEqual(sum(row[0] for row in further_answers((names,), star, 1)), 3)
        way = [(1, names[at - 1], names[at]) for at in range(1, 6)]
        self.assertEqual(sum(row[0] for row in further_answers((names,), way, 1)), 1)
        self.assertEqual(further_answers((names,), way + [(1, names[0], names[5])], 1), ())
        self.assertEqual(further_answers((names[:2],), [(1,) + names[:2]], 1), ((1,) + names[:2],))


class ErrorsTest(unittest.TestCase):
    def test_errors(self):
        calls = ((firm_paper, (None, None), ()), (firm_holds, (None, None), (None,)), (fewest_answers, (None,), ()),
                 (further_answers, (None, None), ()))
        wrong_parts = [None, 3, True, "ab", list(PARTS), in_lists(PARTS), (PARTS[0], [(0, 2)]), PARTS[::-1], (PARTS[0], PARTS[0]), ((),),
                       (((0, 1), (0, 0)),), (PARTS[0], ((0, 1), (0, 2))), (((0, True),),)]
        for function, behind, rest in calls:
            for value in wrong_parts:
                keeps(self, InvalidPeople, -1, function, value, *behind, *rest)
            for value in odd_values():
                check_ways(self, function, (value,) + ((), 1)[-len(behind):] + rest)
        for function, _, rest in calls:
            if function is not fewest_answers:
                for value in (None, 3, True, "ab"):
                    keeps(self, InvalidLinks, -1, function, PARTS, value, None, *rest)
                for value in (None, ANSWERS[0], (0, (0, 1), (0, 2)), (True, (0, 1), (0, 2)), (1, (0, 2), (0, 1)), (1, (0, 1), (9, 9)),
                              (1, (0, 1)), "abc"):
                    keeps(self, InvalidLinks, 1, function, PARTS, [ANSWERS[0], value, None], None, *rest)
                for value in odd_values():
                    check_ways(self, function, (PARTS, value, 1) + rest, lists=(1,))
                    check_ways(self, function, (PARTS, (ANSWERS[0], value), 1) + rest, lists=(1,))
            args = (PARTS,) if function is fewest_answers else (PARTS, ANSWERS)
            for value in (None, -1, True, "1", (1,)) + ((2,) if function is further_answers else ()):
                keeps(self, InvalidSize, "wrong", function, *args, value, *rest)
            for value in odd_values():
                check_ways(self, function, args + (value,) + rest, lists=(1,))
            check_ways(self, function, args + (1,) + rest, lists=(1,))
        for value in odd_values():
            for wrong in range(2):
                self.assertIs(firm_holds(PARTS, ANSWERS, wrong, value), False)


if __name__ == "__main__":
    unittest.main()
