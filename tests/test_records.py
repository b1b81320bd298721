"""[5]: schemas, fields, names, records, days."""

import datetime
import unittest

from helpers import chance, changed_values, check_ways, in_lists, keeps, odd_values, same
from whoiswho.best import Likes
from whoiswho.errors import InvalidDay, InvalidField, InvalidName, InvalidRecord, InvalidSchema
from whoiswho.records import day_number, day_of, day_text, need_fields, need_name, need_record, need_records
from whoiswho.records import need_schema, read_day

SCHEMA = ("text", "number", "day", "list")
FIELDS = ("ann ~", -3, 3652058, ("", "a", "b c"))


def in_tuples(value):
    return tuple(map(in_tuples, value)) if isinstance(value, (list, tuple)) else value


def is_text(value):
    return type(value) is str and all(32 <= ord(sign) <= 126 for sign in value)


def of_kind(kind, value):
    if value is None:
        return True
    if kind == "text":
        return is_text(value)
    if kind == "number":
        return type(value) is int
    if kind == "day":
        return type(value) is int and 0 <= value <= 3652058
    return isinstance(value, (list, tuple)) and all(map(is_text, value)) and list(value) == sorted(set(value))


def plain_fields(schema, value):
    """("ok", fields) or ("InvalidField", at)."""
    if not isinstance(value, (list, tuple)) or len(value) != len(schema):
        return ("InvalidField", -1)
    for at, thing in enumerate(value):
        if not of_kind(schema[at], thing):
            return ("InvalidField", at)
    return ("ok", in_tuples(value))


def plain_name(value):
    if isinstance(value, (list, tuple)) and len(value) == 2 and all(type(n) is int and n >= 0 for n in value):
        return ("ok", tuple(value))
    return ("InvalidName", -1)


def plain_record(schema, value):
    if not isinstance(value, (list, tuple)) or len(value) != 2:
        return ("InvalidRecord", -1)
    name, fields = plain_name(value[0]), plain_fields(schema, value[1])
    if name[0] != "ok":
        return name
    return ("ok", (name[1], fields[1])) if fields[0] == "ok" else fields


def plain_records(schema, value):
    if not isinstance(value, (list, tuple)):
        return ("InvalidRecord", -1)
    out = []
    for at, thing in enumerate(value):
        told = plain_record(schema, thing)
        if told[0] != "ok" or (out and not out[-1][0] < told[1][0]):
            return ("InvalidRecord", at)
        out.append(told[1])
    return ("ok", tuple(out))


ERRORS = {error.__name__: error for error in (InvalidField, InvalidName, InvalidRecord)}


class RecordsTest(unittest.TestCase):
    def check(self, told, function, *args):
        if told[0] == "ok":
            self.assertTrue(same(function(*args), told[1]), (function, args))
        else:
            keeps(self, ERRORS[told[0]], told[1], function, *args)
        check_ways(self, function, args)
        return told[0]

    def test_schema(self):
        self.assertTrue(same(need_schema(list(SCHEMA)), SCHEMA))
        self.assertTrue(same(need_schema(("day",) * 12), ("day",) * 12))
        for value in ((), ("text",) * 13, None, "text", 4, True, Likes(1, (), ())):
            keeps(self, InvalidSchema, -1, need_schema, value)
            for function in (need_fields, need_record, need_records):
                keeps(self, InvalidSchema, -1, function, value, None)
        for kind in ("texts", "", None, 0, ["text"], ("text",), "Text", True, Likes(1, (), ())):
            keeps(self, InvalidSchema, 1, need_schema, ["text", kind, kind])
            for function in (need_fields, need_record, need_records):
                keeps(self, InvalidSchema, 1, function, ["text", kind, kind], None)
        check_ways(self, need_schema, (SCHEMA,), lists=(0,))

    def test_fields(self):
        self.assertTrue(same(need_fields(SCHEMA, in_lists(FIELDS)), FIELDS))
        self.assertTrue(same(need_fields(SCHEMA, (None,) * 4), (None,) * 4))
        self.assertTrue(same(need_fields(["list", "day"], ((), 0)), ((), 0)))
        for at, values in enumerate([("\n", "\x7f", "\u00e9", 1, True, ("a",), ["a"]),
                                     (True, False, "1", (1,), [1]),
                                     (-1, 3652059, True, "2020-01-01", (1,)),
                                     ("a", ("b", "a"), ("a", "a"), (None,), ("\n",), (1,), [["a"]], 0, True)]):
            for value in values:
                fields = list(FIELDS)
                fields[at] = value
                keeps(self, InvalidField, at, need_fields, SCHEMA, fields)
        for value in (FIELDS[:3], FIELDS + (None,), None, "abcd", 4, (), True):
            keeps(self, InvalidField, -1, need_fields, SCHEMA, value)
        for value in odd_values():
            for kind in SCHEMA:
                self.check(plain_fields((kind,), value), need_fields, (kind,), value)
                self.check(plain_fields((kind,), [value]), need_fields, (kind,), [value])

    def test_names(self):
        for value in odd_values() + [[3, 4], (3, 4), (3, "4"), (-1, 0), (0, 0, 0), (0,), [False, 0]]:
            self.check(plain_name(value), need_name, value)
        self.assertTrue(same(need_name([10 ** 9, 0]), (10 ** 9, 0)))

    def test_records(self):
        choice = chance(5)
        record = ((0, 3), FIELDS)
        self.assertTrue(same(need_record(SCHEMA, in_lists(record)), record))
        self.assertTrue(same(need_records(SCHEMA, []), ()))
        rows = (((0, 3), FIELDS), ((0, 4), FIELDS), ((1, 0), (None,) * 4), ((1, 2), FIELDS))
        self.assertTrue(same(need_records(SCHEMA, in_lists(rows)), rows))
        seen = set()
        for value in odd_values() + changed_values(record, choice, 200) + changed_values(in_lists(record), choice, 200):
            seen.add(self.check(plain_record(SCHEMA, value), need_record, SCHEMA, value))
        self.assertEqual(seen, {"ok", "InvalidField", "InvalidName", "InvalidRecord"})
        for value in odd_values() + changed_values(rows, choice, 300) + changed_values(in_lists(rows), choice, 200):
            seen.add(self.check(plain_records(SCHEMA, value), need_records, SCHEMA, value))
        for at in range(1, 4):
            keeps(self, InvalidRecord, at, need_records, SCHEMA, rows[:at] + (rows[at - 1],) + (None,))
            keeps(self, InvalidRecord, at, need_records, SCHEMA, rows[:at] + (rows[0],))
        keeps(self, InvalidName, -1, need_record, SCHEMA, (None, None))
        keeps(self, InvalidField, -1, need_record, SCHEMA, ((0, 0), None))
        keeps(self, InvalidRecord, 0, need_records, SCHEMA, [(None, None)])


class DaysTest(unittest.TestCase):
    def test_each_day_is_one_more_than_the_one_ahead(self):
        day = datetime.date(1, 1, 1)
        choice = chance(55)
        numbers = list(range(0, 1500)) + [choice.randrange(3652059) for _ in range(3000)] \
            + list(range(3652059 - 800, 3652059)) + list(range(36000, 37000)) + list(range(145000, 147000))
        for number in numbers:
            day = datetime.date.fromordinal(number + 1)
            told = (day.year, day.month, day.day)
            self.assertTrue(same(day_of(number), told))
            self.assertTrue(same(day_number(*told), number))
            self.assertEqual(day_text(number), day.isoformat())
            self.assertTrue(same(read_day(day.isoformat()), number))

    def test_all_months(self):
        for year in (1, 4, 100, 400, 1900, 2000, 2023, 2024, 9996, 9999):
            for month in range(1, 13):
                for day in range(0, 34):
                    try:
                        told = datetime.date(year, month, day).toordinal() - 1
                    except ValueError:
                        keeps(self, InvalidDay, 2, day_number, year, month, day)
                    else:
                        self.assertEqual(day_number(year, month, day), told)

    def test_ends(self):
        self.assertEqual((day_number(1, 1, 1), day_number(9999, 12, 31)), (0, 3652058))
        self.assertEqual((day_text(0), day_text(3652058)), ("0001-01-01", "9999-12-31"))
        check_ways(self, day_number, (2024, 2, 29))
        check_ways(self, day_of, (7,))
        check_ways(self, day_text, (7,))
        check_ways(self, read_day, ("2024-02-29",))

    def test_errors(self):
        for value in (0, -1, 10000, True, None, "2020", (2020,)):
            keeps(self, InvalidDay, 0, day_number, value, None, None)
        for value in (0, 13, -1, True, None, "1"):
            keeps(self, InvalidDay, 1, day_number, 2020, value, None)
        for value in (0, 32, -1, True, None, "1"):
            keeps(self, InvalidDay, 2, day_number, 2020, 1, value)
        keeps(self, InvalidDay, 2, day_number, 1900, 2, 29)
        for value in (-1, 3652059, True, None, "0", (0,), [], Likes(1, (), ())):
            keeps(self, InvalidDay, -1, day_of, value)
            keeps(self, InvalidDay, -1, day_text, value)

    def test_read_day(self):
        for text in ["", "2020-1-01", "2020-01-1", "02020-01-01", "2020/01/01", "2020-01-01 ", " 2020-01-01", "202a-01-01",
                     "2020-01-0\u0661", "+020-01-01", "2020--1-01", "20200-1-01", "2020-01_01", "-020-01-01", None, 20200101,
                     ("2020-01-01",), ["2020-01-01"], True, "2020-01-01\n", "1_00-01-01"]:
            keeps(self, InvalidDay, -1, read_day, text)
        for text, at in [("0000-01-01", 0), ("0000-13-40", 0), ("2020-00-01", 1), ("2020-13-99", 1), ("2020-02-30", 2),
                         ("2021-02-29", 2), ("2020-01-00", 2), ("9999-12-32", 2)]:
            keeps(self, InvalidDay, at, read_day, text)
        for value in odd_values():
            check_ways(self, read_day, (value,))


if __name__ == "__main__":
    unittest.main()
