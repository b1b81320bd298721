"""[71]: looks, papers beside the questions that they answer."""

import unittest

from helpers import chance, changed_values, check_ways, has_list, in_lists, keeps, odd_values, outcome, same
from test_naming import some_groups
from test_people import some_case
from test_rings import all_parts, some_hands
from test_rules import some_rule
from test_taken import BOOK, some_book
from test_windows import other_rule
from whoiswho.errors import InvalidBook, InvalidIndex, InvalidPeople, InvalidRule, InvalidTable, InvalidValue, Refused
from whoiswho.furthest import edit_holds, edit_paper
from whoiswho.looks import look_holds, make_look, wrong_looks
from whoiswho.naming import names_hold, names_paper
from whoiswho.overlaps import form_holds, form_paper
from whoiswho.papers import pair_holds, pair_paper, people_hold, people_paper
from whoiswho.rings import hands_hold, hands_paper, same_holds, same_paper
from whoiswho.splits import judges_hold, judges_paper
from whoiswho.taken import taken_holds, taken_paper
from whoiswho.windows import rules_hold, rules_paper

FUNCTIONS = {
    "people": (people_paper, people_hold, 3),
    "pair": (pair_paper, pair_holds, 5),
    "names": (names_paper, names_hold, 3),
    "rules": (rules_paper, rules_hold, 2),
    "hands": (hands_paper, hands_hold, 3),
    "same": (same_paper, same_holds, 5),
    "edit": (edit_paper, edit_holds, 2),
    "form": (form_paper, form_holds, 1),
    "taken": (taken_paper, taken_holds, 3),
    "judges": (judges_paper, judges_hold, 1),
}


def some_question(choice, word):
    if word in ("people", "pair"):
        web = some_case(choice, 6)
        while word == "pair" and len(web[0]) < 2:
            web = some_case(choice, 6)
        return web + (tuple(choice.sample(web[0], 2)) if word == "pair" else ())
    if word == "names":
        return (((4, ((0, 0), (0, 1))), (7, ((0, 2),))), some_groups(choice, 5), 8)
    if word == "rules":
        rule = some_rule(choice, 2)
        return rule, other_rule(choice, rule, False)
    if word in ("hands", "same"):
        web = some_hands(choice, 5)
        while word == "same" and not web[1]:
            web = some_hands(choice, 5)
        return web + (choice.choice(web[1])[1:] if word == "same" else ())
    if word == "edit":
        return tuple("".join(choice.choice("ab") for _ in range(choice.randint(0, 5))) for _ in range(2))
    if word == "form":
        return (choice.choice([(), ((("a", "a"), ("a",)),), ((("a", "b"), ("c",)), (("b", "a"), ("d",)))]),)
    if word == "taken":
        book, (one, other) = some_book(choice)
        return book, one, other
    parts = all_parts(((0, 0), (0, 1), (1, 0), (1, 1)))
    return (tuple(choice.choice(parts) for _ in range(choice.randint(1, 3))),)


class LooksTest(unittest.TestCase):
    def test_looks_that_are_made_hold(self):
        choice = chance(71)
        made = {word: 0 for word in FUNCTIONS}
        wrong = {word: 0 for word in FUNCTIONS}
        for _ in range(25):
            looks = []
            for word, (paper, holds, size) in FUNCTIONS.items():
                question = some_question(choice, word)
                self.assertEqual(len(question), size)
                told = outcome(paper, *question)
                if told[0] == "raises":
                    self.assertEqual(outcome(make_look, word, question), told)
                    continue
                look = make_look(word, question)
                made[word] += 1
                self.assertTrue(same(look, (word, question, paper(*question))))
                self.assertTrue(same(make_look(question=in_lists(question), word=word), look))
                self.assertFalse(has_list(look))
                self.assertIs(look_holds(look), True)
                self.assertIs(look_holds(in_lists(look)), False)
                self.assertIs(look_holds(list(look)), False)
                looks.append(look)
                for value in changed_values(look, choice, 6):
                    held = self.plain_holds(value)
                    wrong[word] += not held
                    self.assertIs(look_holds(value), held, value)
                    looks.append(value)
            places = tuple(at for at, look in enumerate(looks) if not self.plain_holds(look))
            self.assertTrue(same(wrong_looks(looks), places))
            self.assertTrue(same(wrong_looks(tuple(looks)), places))
        self.assertGreater(min(made.values()), 5)
        self.assertGreater(min(wrong.values()), 20)

    def plain_holds(self, value):
        if type(value) is not tuple or len(value) != 3 or has_list(value) or type(value[0]) is not str or value[0] not in FUNCTIONS:
            return False
        _, holds, size = FUNCTIONS[value[0]]
        if type(value[1]) is not tuple or len(value[1]) != size:
            return False
        return outcome(holds, *value[1], value[2]) == ("returns", ("bool", True))

    def test_by_hand(self):
        self.assertEqual(make_look("edit", ["a", "b"])[:2], ("edit", ("a", "b")))
        self.assertEqual(wrong_looks(()), ())
        self.assertEqual(wrong_looks([None, make_look("form", [[]]), 3]), (0, 2))
        self.assertEqual(make_look("taken", [BOOK, [0, 0], [0, 1]]), ("taken", (BOOK, (0, 0), (0, 1)), ("never", ((0, 0), (0, 1)))))
        # A book in lists is turned to tuples ahead of all.
        self.assertEqual(make_look("taken", in_lists((BOOK, (0, 0), (0, 1))))[1][0], BOOK)

    def test_odd_values(self):
        for value in odd_values():
            self.assertIs(look_holds(value), False)
            for word in FUNCTIONS:
                self.assertIs(look_holds((word, value, None)), False)
                self.assertIs(look_holds((word, (value,) * FUNCTIONS[word][2], value)), False)
            if not isinstance(value, (list, tuple)):
                keeps(self, Refused, "looks", wrong_looks, value)
            else:
                self.assertEqual(wrong_looks(value), tuple(range(len(value))))
            keeps(self, Refused, "word", make_look, value, None)
            for word in FUNCTIONS:
                if not (isinstance(value, (list, tuple)) and len(value) == FUNCTIONS[word][2]):
                    keeps(self, Refused, "question", make_look, word, value)
                for at in range(FUNCTIONS[word][2]):
                    question = list(some_question(chance(5), word))
                    question[at] = value
                    check_ways(self, make_look, (word, tuple(question)), lists=(1,))
                    check_ways(self, look_holds, ((word, tuple(question), None),))
            check_ways(self, wrong_looks, (value,), lists=())

    def test_errors(self):
        for word in ("People", "", "looks", "best", ["people"], ("people",)):
            keeps(self, Refused, "word", make_look, word, ((), (), ()))
        for word, (_, _, size) in FUNCTIONS.items():
            for question in ((), (None,) * (size + 1), "abcde"[:size], 3, None):
                keeps(self, Refused, "question", make_look, word, question)
        keeps(self, InvalidPeople, -1, make_look, "people", (3, None, None))
        keeps(self, InvalidIndex, 1, make_look, "pair", [[[0, 0]], [], [], [0, 0], [0, 0]])
        keeps(self, InvalidRule, -1, make_look, "rules", (None, None))
        keeps(self, InvalidValue, 1, make_look, "edit", ("a", 3))
        keeps(self, InvalidTable, -1, make_look, "form", [3])
        keeps(self, InvalidBook, -1, make_look, "taken", [[], None, None])
        keeps(self, Refused, "names", make_look, "judges", [[(), (((0, 0),),)]])


if __name__ == "__main__":
    unittest.main()
