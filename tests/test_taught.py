"""[18], what it says of answers: weights that they teach, or heaps that show there are none."""

import itertools
import unittest

from helpers import chance, changed_values, check_ways, keeps, odd_values, same
from whoiswho.errors import InvalidAnswers
from whoiswho.rules import row_word
from whoiswho.taught import taught_holds, taught_paper

WORDS = ("lacking", "like", "near", "unlike")
ANSWERS = ((("like", "near"), "same"), (("unlike", "near"), "not"))


def is_int(value, least=None):
    return type(value) is int and (least is None or value >= least)


def plain_holds(answers, value):
    if type(value) is not tuple or not value or not same(value[0], "weights" if len(value) == 3 else "heaps"):
        return False
    many = len(answers[0][0])
    if len(value) == 3:
        _, weights, least = value
        if type(weights) is not tuple or len(weights) != many or not is_int(least):
            return False
        if not all(type(row) is tuple and len(row) == 4 and all(map(is_int, row)) for row in weights):
            return False
        sums = [sum(dict(zip(WORDS, row))[word] for row, word in zip(weights, verdicts)) for verdicts, _ in answers]
        return [total >= least for total in sums] == [word == "same" for _, word in answers]
    counts = value[1] if len(value) == 2 else None
    if type(counts) is not tuple or len(counts) != len(answers) or not all(is_int(count, 0) for count in counts):
        return False
    if not any(counts):
        return False
    heaps = {"same": [], "not": []}
    for (verdicts, word), count in zip(answers, counts):
        heaps[word] += [tuple(verdicts)] * count
    return len(heaps["same"]) == len(heaps["not"]) and all(
        sorted(row[place] for row in heaps["same"]) == sorted(row[place] for row in heaps["not"]) for place in range(many))


def some_answers(choice, most=12):
    """Any answers, or such as some weights tell, with perhaps one turned."""
    places, kinds = choice.randint(1, 4), WORDS[:choice.randint(2, 4)]
    rows = [tuple(choice.choice(kinds) for _ in range(places)) for _ in range(choice.randint(1, most))]
    if choice.random() < 0.4:
        return [(row, choice.choice(("same", "not"))) for row in rows]
    weights = [{word: choice.randint(-6, 6) for word in WORDS} for _ in range(places)]
    least = choice.randint(-5, 5)
    answers = [(row, "same" if sum(told[word] for told, word in zip(weights, row)) >= least else "not") for row in rows]
    if choice.random() < 0.3:
        at = choice.randrange(len(answers))
        answers[at] = (answers[at][0], choice.choice(("same", "not")))
    return answers


class TaughtTest(unittest.TestCase):
    def test_one_of_both(self):
        choice = chance(18)
        found = {"weights": 0, "heaps": 0}
        for _ in range(600):
            answers = some_answers(choice)
            paper = taught_paper(answers)
            found[paper[0]] += 1
            self.assertTrue(plain_holds(answers, paper), (answers, paper))
            self.assertIs(taught_holds(answers, paper), True)
            for value in changed_values(paper, choice, 4):
                self.assertIs(taught_holds(answers, value), plain_holds(answers, value), (answers, value))
            if paper[0] == "weights":
                # So there are no heaps: each would have the same sum for both words.
                fields = tuple(("edits", 0, 1, weights) for weights in paper[1])
                for verdicts, word in answers:
                    self.assertEqual(row_word((fields, paper[2], ()), verdicts), {"same": "link", "not": "none"}[word])
        self.assertGreater(min(found.values()), 120)

    def test_small_heaps(self):
        # All heaps of few answers, gone through: if some are right there are no weights.
        choice = chance(181)
        found = {"weights": 0, "heaps": 0}
        for _ in range(500):
            answers = some_answers(choice, 5)
            paper = taught_paper(answers)
            some = [counts for counts in itertools.product(range(3), repeat=len(answers))
                    if plain_holds(answers, ("heaps", counts))]
            found[paper[0]] += 1
            if some:
                self.assertEqual(paper[0], "heaps")
                self.assertTrue(all(taught_holds(answers, ("heaps", counts)) for counts in some))
        self.assertGreater(min(found.values()), 20)

    def test_by_hand(self):
        for word in ("same", "not"):
            paper = taught_paper([(["like"], word)])
            self.assertEqual(paper[0], "weights")
            self.assertIs(taught_holds([(["like"], word)], paper), True)
            self.assertEqual(taught_paper([(("like",), word)] * 12)[0], "weights")
        twice = [(("like", "near"), "same"), (("like", "near"), "not")]
        self.assertEqual(taught_paper(twice)[0], "heaps")
        self.assertIs(taught_holds(twice, ("heaps", (7, 7))), True)
        self.assertIs(taught_holds(twice, ("heaps", (7, 6))), False)
        self.assertIs(taught_holds(twice, ("heaps", (0, 0))), False)
        # Alike ones cross: no table has both, though no two answers are alike.
        crossed = [(("like", "like"), "same"), (("near", "near"), "same"), (("like", "near"), "not"), (("near", "like"), "not")]
        self.assertIs(taught_holds(crossed, ("heaps", (1, 1, 1, 1))), True)
        self.assertEqual(taught_paper(crossed)[0], "heaps")
        self.assertEqual(taught_paper(crossed[:3])[0], "weights")
        self.assertIs(taught_holds(ANSWERS, ("weights", ((0, 3, 0, 2), (0, 0, 5, 0)), 8)), True)
        self.assertIs(taught_holds(ANSWERS, ("weights", ((0, 3, 0, 2), (0, 0, 5, 0)), 9)), False)
        self.assertIs(taught_holds(ANSWERS, ("weights", ((0, 3, 0, 2), (0, 0, 5, 0)), 7)), False)
        self.assertIs(taught_holds(ANSWERS, ("weights", ((0, 3, 0, 2),), 3)), False)
        self.assertIs(taught_holds(ANSWERS, ("weights", ([0, 3, 0, 2], (0, 0, 5, 0)), 8)), False)
        self.assertIs(taught_holds(ANSWERS, ("weights", ((True, 3, 0, 2), (0, 0, 5, 0)), 8)), False)

    def test_errors(self):
        for function, rest in ((taught_paper, ()), (taught_holds, (None,))):
            for value in (None, 3, True, "ab", (), [], ANSWERS * 7, (ANSWERS[0],) * 13, {}):
                keeps(self, InvalidAnswers, -1, function, value, *rest)
            for wrong in [None, 3, "ab", (), ("like", "same"), (("like",), "same"), (("like", "near"), "Same"),
                          (("like", "near"), None), (("like", "near"), True), (("like", "Near"), "not"), (("like", 3), "not"),
                          (("like", "near", "near"), "same"), (("like", "near"), "same", 0), ((), "same"), (("like", ["near"]), "not")]:
                keeps(self, InvalidAnswers, 2, function, ANSWERS + (wrong,) + ANSWERS, *rest)
                keeps(self, InvalidAnswers, 1, function, [ANSWERS[1], wrong, wrong], *rest)
            for wrong in [((), "same"), None, (("",), "same"), ((True,), "not")]:
                keeps(self, InvalidAnswers, 0, function, (wrong,) + ANSWERS, *rest)
            for value in odd_values():
                check_ways(self, function, (value,) + rest, lists=(0,))
                check_ways(self, function, ((ANSWERS[0], value),) + rest, lists=(0,))
            check_ways(self, function, (ANSWERS,) + rest, lists=(0,))
        for value in odd_values():
            self.assertIs(taught_holds(ANSWERS, value), False)
        self.assertIs(taught_holds(value=("weights", ((0, 3, 0, 2), (0, 0, 5, 0)), 8), answers=ANSWERS), True)


if __name__ == "__main__":
    unittest.main()
