"""[9]: things and their texts, fields from texts."""

import itertools
import unittest

from helpers import chance, check_ways, deep_value, has_list, keeps, odd_values, same
from test_overlaps import some_table, table_of
from whoiswho.best import Likes
from whoiswho.errors import InvalidField, InvalidSchema, InvalidTable, InvalidText, InvalidValue
from whoiswho.forms import row_form
from whoiswho.records import day_number, day_text
from whoiswho.texts import fields_form, fields_texts, read_fields, read_thing, text_form, text_words, thing_text

SIGNS = "()'? -019az"
KINDS = ("text", "number", "day", "list")


def some_thing(choice, deep=4):
    kind = choice.random()
    if kind < 0.4 and deep:
        return tuple(some_thing(choice, deep - 1) for _ in range(choice.randint(0, 3)))
    return choice.choice([None, 0, 7, -1, -30, 10 ** 30, "", "a", "it's", "''", " ", "(1 2)", "?", "-", "~"])


def plain_text(thing):
    if thing is None:
        return "?"
    if isinstance(thing, str):
        return "'%s'" % thing.replace("'", "''")
    if isinstance(thing, int):
        return str(thing)
    return "(%s)" % " ".join(map(plain_text, thing))


def all_things(signs, deep):
    """Things with short texts."""
    plain = [None] + list(range(-12, 13)) + ["", "a", "'", "a'", " "]
    rows = plain
    for _ in range(deep):
        rows = plain + [tuple(row) for many in range(3) for row in itertools.product(rows[:40], repeat=many)]
    return rows


class ThingTest(unittest.TestCase):
    def test_by_hand(self):
        for thing, text in [(None, "?"), (0, "0"), (-12, "-12"), ("", "''"), ("it's", "'it''s'"), ((), "()"),
                            ((1,), "(1)"), ((None, "a b", (-1, ())), "(? 'a b' (-1 ()))"), ("?", "'?'"), ("(", "'('")]:
            self.assertTrue(same(thing_text(thing), text))
            self.assertTrue(same(read_thing(text), thing))
        self.assertEqual(thing_text([1, ["a", []]]), "(1 ('a' ()))")

    def test_there_and_back(self):
        choice = chance(9)
        for _ in range(500):
            thing = some_thing(choice)
            text = thing_text(thing)
            self.assertTrue(same(text, plain_text(thing)))
            self.assertTrue(same(read_thing(text), thing))

    def test_limits(self):
        for many in (10 ** 399, 10 ** 400 - 1, -10 ** 400 + 1):
            self.assertEqual(thing_text(many), str(many))
            self.assertEqual(read_thing(str(many)), many)
        for many in (10 ** 400, -10 ** 400, 10 ** 402 - 1, 1 << 20000):
            keeps(self, InvalidValue, -1, thing_text, many)
            keeps(self, InvalidValue, -1, thing_text, (0, (many,)))
        keeps(self, InvalidText, 400, read_thing, str(10 ** 400))
        keeps(self, InvalidText, 401, read_thing, str(-10 ** 400))
        keeps(self, InvalidText, 402, read_thing, "((" + str(10 ** 401 - 1) + "))")
        deep = ()
        for _ in range(11):
            deep = (deep,)
        self.assertEqual(thing_text(deep), "(" * 12 + ")" * 12)
        self.assertEqual(read_thing("(" * 12 + ")" * 12), deep)
        self.assertEqual(thing_text(deep_value(12)), "(" * 12 + "0" + ")" * 12)
        keeps(self, InvalidValue, -1, thing_text, (deep,))
        keeps(self, InvalidText, 12, read_thing, "(" * 13)
        keeps(self, InvalidText, 12, read_thing, "(" * 13 + ")" * 13)
        keeps(self, InvalidText, 24, read_thing, "(" * 12 + ")" * 12 + "(")
        keeps(self, InvalidText, 13, read_thing, "(" * 12 + "0" + "(")
        keeps(self, InvalidText, 14, read_thing, "(" * 12 + "0 (")

    def test_wrong_values(self):
        for value in [True, False, (True,), ["a", [False]], Likes(1, (), ()), "\n", "a\x7f", "\u00e9", (1, ("\t",)), (Likes(1, (), ()),)]:
            keeps(self, InvalidValue, -1, thing_text, value)
        for value in [None, 3, True, ("1",), ["1"], Likes(1, (), ())]:
            keeps(self, InvalidText, -1, read_thing, value)

    def test_first_wrong_signs(self):
        for text, at in [("", 0), (" ", 0), ("x", 0), (")", 0), ("-", 1), ("-0", 1), ("--1", 1), ("00", 1), ("01", 1), ("1 ", 1),
                         ("1a", 1), ("'", 1), ("'a", 2), ("'a''", 4), ("'a'b", 3), ("'\n'", 1), ("'a\u00e9'", 2), ("(", 1), ("( ", 1),
                         ("(1", 2), ("(1 ", 3), ("(1 )", 3), ("(1  2)", 3), ("(1,2)", 2), ("(1 2) ", 5), ("??", 1), ("(?1)", 2),
                         ("('a'1)", 4), ("(-)", 2), ("((1)", 4), ("((1)(2))", 4), ("(01)", 2), ("()()", 2), ("1.5", 1), ("\n", 0)]:
            keeps(self, InvalidText, at, read_thing, text)

    def test_against_all_texts(self):
        # The first sign such that no text of a thing begins with all up to it, over all short strings.
        texts = {plain_text(thing): thing for thing in all_things(SIGNS, 2)}
        begins = {text[:many] for text in texts for many in range(len(text) + 1)}
        for many in range(5):
            for signs in itertools.product("()' ?-01", repeat=many):
                text = "".join(signs)
                if text in texts:
                    self.assertTrue(same(read_thing(text), texts[text]))
                    continue
                try:
                    self.assertEqual(plain_text(read_thing(text)), text)
                except InvalidText as error:
                    if text in begins:
                        self.assertEqual(error.at, len(text))
                    self.assertNotIn(text[:error.at + 1] if error.at < len(text) else None, begins)
                    self.assertIn(error.at, range(len(text) + 1))

    def test_changed_texts(self):
        choice = chance(91)
        for _ in range(1500):
            text = list(thing_text(some_thing(choice, 3)))
            for _ in range(choice.randint(1, 2)):
                at = choice.randint(0, len(text))
                text[at:at + choice.randint(0, 1)] = choice.choice(["", choice.choice(SIGNS)])
            text = "".join(text)
            try:
                self.assertEqual(plain_text(read_thing(text)), text)
            except InvalidText as error:
                ahead = text[:error.at]
                self.assertTrue(self.can_go_on(ahead), (text, error.at))
                if error.at < len(text):
                    self.assertFalse(self.can_go_on(text[:error.at + 1]), (text, error.at))

    def can_go_on(self, ahead):
        """Whether some thing's text begins so: one of these ends would make it one."""
        open_at, quoted = 0, False
        for sign in ahead:
            if sign == "'":
                quoted = not quoted
            elif not quoted:
                open_at += {"(": 1, ")": -1}.get(sign, 0)
        for end in ["", "'", "1", "?", "1'", "''"]:
            text = ahead + end + ")" * max(0, open_at)
            try:
                if plain_text(read_thing(text)) == text:
                    return True
            except InvalidText:
                continue
        return False

    def test_ways(self):
        for value in odd_values():
            check_ways(self, thing_text, (value,))
            check_ways(self, read_thing, (value,))
            check_ways(self, text_words, (value,))
        check_ways(self, thing_text, ((1, ("a", ())),), lists=(0,))
        self.assertFalse(has_list(read_thing("((1) ())")))


class WordsTest(unittest.TestCase):
    TABLE = table_of(("st", "s"), ("dr med", "dr"), ("robert", "bob"))

    def test_words(self):
        self.assertTrue(same(text_words("Anna-Maria  O'Neil 3b"), ("anna", "maria", "o", "neil", "3b")))
        self.assertEqual((text_words(""), text_words(" -- ")), ((), ()))
        self.assertEqual(text_words("A1b2_C"), ("a1b2", "c"))
        self.assertEqual(text_words("".join(map(chr, range(32, 127)))),
                         ("0123456789", "abcdefghijklmnopqrstuvwxyz", "abcdefghijklmnopqrstuvwxyz"))

    def test_forms(self):
        self.assertEqual(text_form(self.TABLE, "Dr. med. ROBERT"), "dr bob")
        self.assertIsNone(text_form(self.TABLE, " .!"))
        self.assertEqual(text_form((), "b  A"), "b a")
        choice = chance(92)
        for _ in range(100):
            table = some_table(choice, ["a", "b", "ab"], 3, 2)
            text = "".join(choice.choice("aB ;-b") for _ in range(choice.randint(0, 8)))
            words = text_words(text)
            self.assertEqual(text_form(table, text), " ".join(row_form(table, words)) if words else None)

    def test_errors(self):
        for value in (None, 3, True, ("a",), "\n", "\u00e9a", "a\x7f"):
            keeps(self, InvalidText, -1, text_words, value)
            keeps(self, InvalidText, -1, text_form, self.TABLE, value)
        keeps(self, InvalidTable, -1, text_form, None, None)
        keeps(self, InvalidTable, 0, text_form, [None], None)


class FieldsTest(unittest.TestCase):
    TABLE = WordsTest.TABLE

    def one(self, kind, text):
        return read_fields((kind,), self.TABLE, (text,))[0]

    def test_read(self):
        for kind in KINDS:
            self.assertIsNone(self.one(kind, ""))
            self.assertIsNone(self.one(kind, "   "))
        self.assertEqual(self.one("text", " Robert ST "), "bob s")
        self.assertIsNone(self.one("text", " - "))
        for text, number in [("0", 0), (" 12 ", 12), ("-5", -5), ("007", 7), ("-0", 0), ("9" * 30, 10 ** 30 - 1),
                             ("-" + "0" * 29 + "1", -1)]:
            self.assertTrue(same(self.one("number", text), number))
        for text in ["9" * 31, "+1", "- 1", "1 2", "1.0", "--1", "-", "a", "1_0", "0x1"]:
            keeps(self, InvalidField, 0, read_fields, ("number",), (), (text,))
        self.assertEqual(self.one("day", " 2024-02-29 "), day_number(2024, 2, 29))
        self.assertEqual(self.one("day", "0001-01-01"), 0)
        for text in ["2023-02-29", "2024-2-29", "0000-01-01", "2024-13-01", "20240229", "x", "2024-02-29-", "2024 02 29"]:
            keeps(self, InvalidField, 0, read_fields, ("day",), (), (text,))
        self.assertTrue(same(self.one("list", "Robert; b ;a; BOB;;-"), ("a", "b", "bob")))
        self.assertTrue(same(self.one("list", " a "), ("a",)))
        self.assertIsNone(self.one("list", ";-; "))
        self.assertTrue(same(read_fields(KINDS, self.TABLE, ["x", "1", "0001-01-02", "b;a"]), ("x", 1, 1, ("a", "b"))))

    def test_texts(self):
        self.assertTrue(same(fields_texts(KINDS, ("a;b", -7, 0, ["a;b", "c"])), ("a;b", "-7", "0001-01-01", "a b;c")))
        self.assertTrue(same(fields_texts(KINDS, [None, None, None, None]), ("", "", "", "")))
        self.assertEqual(fields_texts(("list", "list", "text"), ((), ("",), "")), ("", "", ""))
        self.assertEqual(fields_texts(("number",), (10 ** 401,)), ("1" + "0" * 401,))

    def test_forms(self):
        self.assertTrue(same(fields_form(KINDS, self.TABLE, (" Robert", 5, 9, ("Bob", "b-c", "robert"))),
                             ("bob", 5, 9, ("b c", "bob"))))
        self.assertTrue(same(fields_form(("text", "list", "list", "list"), (), ("-", (), ("-", "."), None)),
                             (None, None, None, None)))

    def test_it_holds(self):
        choice = chance(93)
        for _ in range(300):
            table = some_table(choice, ["a", "b", "ab"], 3, 2)
            fields = []
            for kind in KINDS:
                text = "".join(choice.choice("aB ;-b'") for _ in range(choice.randint(0, 6)))
                others = {text, "", "A;", "b -a"}
                lot = tuple(sorted(choice.sample(sorted(others), choice.randint(0, 3))))
                fields.append(choice.choice([None, {"text": text, "number": choice.randint(-10 ** 30 + 1, 10 ** 30 - 1),
                                                    "day": choice.randint(0, 3652058), "list": lot}[kind]]))
            form = fields_form(KINDS, table, fields)
            self.assertTrue(same(read_fields(KINDS, table, fields_texts(KINDS, fields)), form))
            self.assertTrue(same(fields_form(KINDS, table, form), form))
            self.assertTrue(same(read_fields(KINDS, table, fields_texts(KINDS, form)), form))

    def test_errors(self):
        for function, args in ((read_fields, ((), ("",))), (fields_texts, (("",),)), (fields_form, ((), ("",)))):
            for schema in (None, (), ("text",) * 13, "text"):
                keeps(self, InvalidSchema, -1, function, schema, *[None for _ in args])
            keeps(self, InvalidSchema, 1, function, ("text", "Text", 3), *[None for _ in args])
        for function in (read_fields, fields_form):
            keeps(self, InvalidTable, -1, function, ("text",), None, None)
            keeps(self, InvalidTable, 0, function, ("text",), [3], None)
            for value in (None, (), ("", ""), "a", 3):
                keeps(self, InvalidField, -1, function, ("text",), (), value)
            keeps(self, InvalidField, 1, function, ("text", "text", "text"), (), ("a", "\n", None))
        for value in (None, (), ("", ""), 3):
            keeps(self, InvalidField, -1, fields_texts, ("text",), value)
        keeps(self, InvalidField, 1, fields_texts, ("text", "number"), ("a", True))
        keeps(self, InvalidField, 3, fields_form, KINDS, (), ("a", 1, 1, ("b", "a")))
        for value in (None, 3, True, ("a",)):
            keeps(self, InvalidField, 1, read_fields, ("number", "number"), (), ("1", value))
        keeps(self, InvalidField, 0, read_fields, ("number", "number"), (), ("x", None))

    def test_ways(self):
        for value in odd_values():
            for args in [(value, (), ("a",)), (("text",), value, ("a",)), (("text",), (), value), (("text",), (), (value,)),
                         (("list",), (), (value,)), (("day",), (), (value,))]:
                check_ways(self, read_fields, args)
                check_ways(self, fields_form, args)
            check_ways(self, fields_texts, (value, ("a",)))
            check_ways(self, fields_texts, (("number",), (value,)))
            check_ways(self, text_form, (value, "a"))
            check_ways(self, text_form, ((), value))
        check_ways(self, read_fields, (KINDS, self.TABLE, ("x", "1", "0001-01-02", "b;a")), lists=(0, 1, 2))
        check_ways(self, fields_form, (KINDS, self.TABLE, ("x", 1, 2, ("a", "b"))), lists=(0, 1, 2))
        check_ways(self, fields_texts, (KINDS, ("x", 1, 2, ("a", "b"))), lists=(0, 1))
        self.assertEqual(day_text(2), fields_texts(("day",), (2,))[0])


if __name__ == "__main__":
    unittest.main()
