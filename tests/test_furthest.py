"""[11]: far rows along diagonals."""

import itertools
import unittest

from helpers import chance, changed_values, check_ways, keeps, odd_values, same
from whoiswho.edits import edit_distance, edit_table, edited_text
from whoiswho.errors import InvalidScript, InvalidSize, InvalidValue
from whoiswho.furthest import beyond_holds, beyond_paper, edit_holds, edit_paper, edits_within, furthest_rows

SMALL = ["".join(signs) for length in range(4) for signs in itertools.product("ab", repeat=length)]


def diagonals(one, other, deeds):
    return [d for d in range(-deeds, deeds + 1) if -len(one) <= d <= len(other)]


def places(one, other, d):
    return [i for i in range(len(one) + 1) if 0 <= i + d <= len(other)]


def plain_rows(one, other, most):
    table = edit_table(one, other)
    return tuple(tuple(max(i for i in places(one, other, d) if table[i][i + d] <= deeds)
                       for d in diagonals(one, other, deeds)) for deeds in range(most + 1))


def plain_far(one, other, rows, many):
    if type(rows) is not tuple or len(rows) != many:
        return False
    elder = {}
    for deeds, row in enumerate(rows):
        along = diagonals(one, other, deeds)
        if type(row) is not tuple or len(row) != len(along):
            return False
        here = {}
        for d, i in zip(along, row):
            if type(i) is not int or i not in places(one, other, d):
                return False
            last = max(places(one, other, d))
            if deeds:
                goal = [elder[d] + 1] if d in elder else []
                goal += [elder[d - 1]] if d - 1 in elder else []
                goal += [elder[d + 1] + 1] if d + 1 in elder else []
                if i < max(goal) and i != last:
                    return False
            if i != last and one[i] == other[i + d]:
                return False
            if i == len(one) and i + d == len(other):
                return False
            here[d] = i
        elder = here
    return True


def plain_edit(one, other, value):
    if type(value) is not tuple or len(value) != 2 or type(value[0]) is not tuple:
        return False
    if not all(type(deed) is tuple for deed in value[0]):
        return False
    try:
        if edited_text(one, value[0]) != other:
            return False
    except InvalidScript:
        return False
    return plain_far(one, other, value[1], len(value[0]))


class FurthestTest(unittest.TestCase):
    def check(self, one, other, most):
        far = edit_distance(one, other)
        self.assertTrue(same(furthest_rows(one, other, most), plain_rows(one, other, most)))
        self.assertTrue(same(edits_within(one, other, most), far if far <= most else None))
        paper = beyond_paper(one, other, most)
        if far <= most:
            self.assertIsNone(paper)
            self.assertFalse(beyond_holds(one, other, most, plain_rows(one, other, most)))
        else:
            self.assertTrue(plain_far(one, other, paper, most + 1))
            self.assertTrue(beyond_holds(one, other, most, paper))
            self.assertLessEqual(sum(map(len, paper)), (most + 1) ** 2)
        self.assertFalse(beyond_holds(one, other, most, None))
        script, rows = edit_paper(one, other)
        self.assertEqual(edited_text(one, script), other)
        self.assertEqual((len(script), len(rows)), (far, far))
        self.assertTrue(plain_far(one, other, rows, far))
        self.assertTrue(edit_holds(one, other, (script, rows)))
        return paper, (script, rows)

    def test_small_texts(self):
        for one in SMALL:
            for other in SMALL:
                for most in range(5):
                    self.check(one, other, most)

    def test_longer_texts_and_changed_papers(self):
        choice = chance(11)
        right = 0
        for _ in range(120):
            one = "".join(choice.choice("abc") for _ in range(choice.randint(0, 12)))
            other = "".join(choice.choice("abc") for _ in range(choice.randint(0, 12)))
            most = choice.randint(0, 12)
            beyond, paper = self.check(one, other, most)
            for value in changed_values(paper, choice, 15):
                told = plain_edit(one, other, value)
                right += told
                self.assertTrue(same(edit_holds(one, other, value), told))
            for value in changed_values(beyond, choice, 10) if beyond else ():
                told = plain_far(one, other, value, most + 1)
                right += told
                self.assertTrue(same(beyond_holds(one, other, most, value), told))
        self.assertGreater(right, 30)

    def test_far_rows_are_there_exactly_if_so_many_deeds_do_not_do(self):
        texts = [text for text in SMALL if len(text) <= 2] + ["aba", "bb"]
        for one in texts:
            for other in texts:
                for most in range(2):
                    every = [itertools.product(range(len(one) + 1), repeat=len(diagonals(one, other, deeds)))
                             for deeds in range(most + 1)]
                    some = False
                    for rows in itertools.product(*every):
                        told = plain_far(one, other, rows, most + 1)
                        self.assertEqual(beyond_holds(one, other, most, rows), told)
                        some = some or told
                    self.assertEqual(some, edit_distance(one, other) > most)

    def test_by_hand(self):
        self.assertEqual(furthest_rows("ab", "b", 1), ((0,), (2, 1, 0)))
        self.assertEqual(furthest_rows("", "", 2), ((0,), (0,), (0,)))
        self.assertEqual(edit_paper("", ""), ((), ()))
        self.assertTrue(edit_holds("a", "a", ((), ())))
        self.assertFalse(edit_holds("a", "a", ((("to", 0, "a"),), ((1,),))))
        self.assertEqual(beyond_paper("a", "b", 0), ((0,),))
        self.assertFalse(beyond_holds("ab", "cd", 0, ((True,),)))
        self.assertFalse(beyond_holds("ab", "cd", 0, ((False,),)))
        self.assertTrue(beyond_holds("ab", "cd", 0, ((0,),)))
        self.assertTrue(beyond_holds("ab", "cd", 0, ((1,),)))
        self.assertFalse(beyond_holds("ab", "cd", 0, ((2,),)))
        self.assertFalse(beyond_holds("ab", "cd", 0, [(0,)]))
        self.assertFalse(edit_holds("a", "b", ((["to", 0, "b"],), ((0,),))))
        self.assertTrue(edit_holds("a", "b", ((("to", 0, "b"),), ((0,),))))

    def test_errors(self):
        for most in (-1, 13, True, None, "1", (1,)):
            for function in (furthest_rows, edits_within, beyond_paper):
                keeps(self, InvalidSize, "most", function, "a", "b", most)
            keeps(self, InvalidSize, "most", beyond_holds, "a", "b", most, None)
        for text in (None, 0, ("a",), "\n", "\u00e9", True):
            for function in (furthest_rows, edits_within, beyond_paper):
                keeps(self, InvalidValue, 0, function, text, text, -1)
                keeps(self, InvalidValue, 1, function, "a", text, -1)
            keeps(self, InvalidValue, 0, beyond_holds, text, text, -1, None)
            keeps(self, InvalidValue, 1, beyond_holds, "a", text, -1, None)
            keeps(self, InvalidValue, 0, edit_paper, text, text)
            keeps(self, InvalidValue, 1, edit_paper, "a", text)
            keeps(self, InvalidValue, 0, edit_holds, text, text, None)
            keeps(self, InvalidValue, 1, edit_holds, "a", text, None)

    def test_odd_values_and_ways(self):
        for function in (furthest_rows, edits_within, beyond_paper):
            check_ways(self, function, ("anna", "ann", 1))
            check_ways(self, function, ("anna", "hugo", 2))
        check_ways(self, edit_paper, ("anna", "an"))
        paper = edit_paper("anna", "hugo")
        check_ways(self, edit_holds, ("anna", "hugo", paper))
        check_ways(self, beyond_holds, ("anna", "hugo", 2, beyond_paper("anna", "hugo", 2)))
        for value in odd_values():
            self.assertTrue(same(edit_holds("anna", "hugo", value), False))
            self.assertTrue(same(beyond_holds("anna", "hugo", 1, value), False))
            self.assertFalse(edit_holds("anna", "hugo", (value, paper[1])))
            self.assertFalse(edit_holds("anna", "hugo", (paper[0], value)))
            self.assertFalse(edit_holds("anna", "hugo", ((value,), (value,))))
            self.assertFalse(beyond_holds("anna", "hugo", 0, (value, value)))
            self.assertEqual(beyond_holds("x", "yy", 0, ((value,),)), type(value) is int and value == 0 or
                             type(value) is int and value == 1)
            check_ways(self, edit_holds, ("anna", "hugo", value))
            check_ways(self, beyond_holds, ("anna", "hugo", 1, value))


if __name__ == "__main__":
    unittest.main()
