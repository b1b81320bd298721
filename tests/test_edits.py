"""[10]: scripts, the distance, its table."""

import itertools
import unittest

from helpers import chance, check_ways, keeps, odd_values
from whoiswho.edits import edit_distance, edit_script, edit_table, edited_text
from whoiswho.errors import InvalidScript, InvalidValue

SMALL = ["".join(signs) for length in range(4) for signs in itertools.product("ab", repeat=length)]


def neighbours(text, signs):
    out = set()
    for place in range(len(text) + 1):
        for sign in signs:
            out.add(text[:place] + sign + text[place:])
    for place in range(len(text)):
        out.add(text[:place] + text[place + 1:])
        for sign in signs:
            out.add(text[:place] + sign + text[place + 1:])
    return out


def reached(text, signs, longest):
    """The fewest deeds to each text, going through any texts up to a length."""
    far, waiting = {text: 0}, [text]
    for here in waiting:
        for other in sorted(neighbours(here, signs)):
            if len(other) <= longest and other not in far:
                far[other] = far[here] + 1
                waiting.append(other)
    return far


class EditsTest(unittest.TestCase):
    def test_told_by_hand(self):
        self.assertEqual(edited_text("ann", [("in", 3, "a"), ("to", 0, "A"), ("out", 1)]), "Ana")
        self.assertEqual(edited_text("", [("in", 0, "~"), ("in", 0, " ")]), " ~")
        self.assertEqual(edited_text("a", [("to", 0, "a")]), "a")
        self.assertEqual(edited_text("a", ()), "a")
        self.assertEqual(edit_distance("kitten", "sitting"), 3)
        self.assertEqual(edit_table("a", "ba"), ((0, 1, 2), (1, 1, 1)))
        self.assertEqual(edit_table("", ""), ((0,),))
        self.assertEqual(edit_script("x", "x"), ())

    def test_distance_is_the_fewest_deeds_through_any_texts(self):
        for one in SMALL:
            far = reached(one, "ab", 5)
            for other in SMALL:
                self.assertEqual(edit_distance(one, other), far[other], (one, other))

    def test_it_holds(self):
        for one in SMALL:
            for other in SMALL:
                here = edit_distance(one, other)
                self.assertEqual(here == 0, one == other)
                self.assertEqual(here, edit_distance(other, one))
                for third in SMALL:
                    self.assertLessEqual(here, edit_distance(one, third) + edit_distance(third, other))

    def test_scripts_and_tables(self):
        choice = chance(10)
        for _ in range(300):
            one = "".join(choice.choice("ab~ ") for _ in range(choice.randint(0, 12)))
            other = "".join(choice.choice("ab~ ") for _ in range(choice.randint(0, 12)))
            script = edit_script(one, other)
            self.assertEqual(len(script), edit_distance(one, other))
            self.assertEqual(edited_text(one, script), other)
            self.assertTrue(all(deed[0] in ("in", "out", "to") for deed in script))
            table = edit_table(one, other)
            self.assertEqual(len(table), len(one) + 1)
            for i, row in enumerate(table):
                self.assertEqual(len(row), len(other) + 1)
            i, j = choice.randint(0, len(one)), choice.randint(0, len(other))
            self.assertEqual(table[i][j], edit_distance(one[:i], other[:j]))

    def test_wrong_deeds(self):
        for deed in [("in", 3, "x"), ("in", -1, "x"), ("in", 0, "xy"), ("in", 0, ""), ("in", 0), ("in", True, "x"),
                     ("in", 0, "\n"), ("out", 2), ("out", -1), ("out", False), ("out", 0, "a"), ("out",), ("to", 2, "x"),
                     ("to", 0, None), ("to", 0), ("put", 0, "x"), None, "in", 0, (), ("in", "0", "x"), ("in", 0, "x", 0)]:
            keeps(self, InvalidScript, 0, edited_text, "ab", [deed, None])
            keeps(self, InvalidScript, 2, edited_text, "ab", [("out", 0), ["in", 0, "x"], deed])
        for value in (None, 0, "", True):
            keeps(self, InvalidScript, -1, edited_text, "ab", value)

    def test_wrong_texts(self):
        for value in (None, 0, ("a",), ["a"], "\n", "\x7f", "\u00e9", "a\tb", True):
            keeps(self, InvalidValue, 0, edited_text, value, None)
            for function in (edit_table, edit_distance, edit_script):
                keeps(self, InvalidValue, 0, function, value, value)
                keeps(self, InvalidValue, 1, function, "a", value)

    def test_odd_values_and_ways(self):
        check_ways(self, edited_text, ("ab", (("in", 2, "c"), ("out", 0))), lists=(1,))
        for value in odd_values():
            check_ways(self, edited_text, ("ab", value))
            check_ways(self, edited_text, (value, ()))
            for function in (edit_table, edit_distance, edit_script):
                check_ways(self, function, (value, "ab"))
                check_ways(self, function, ("ab", value))


if __name__ == "__main__":
    unittest.main()
