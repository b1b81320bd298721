"""[59], [60]: entries in signs, and logs of them."""

import unittest

from helpers import chance, check_ways, deep_value, keeps, odd_values, same
from whoiswho.best import Likes
from whoiswho.entries import read_entry, read_log, sum_pair, write_entry
from whoiswho.errors import InvalidEntry, InvalidSize, InvalidValue

PRINTABLE = "".join(chr(code) for code in range(32, 127) if chr(code) != "%")


def some_value(choice, deep):
    kind = choice.random()
    if kind < 0.4 and deep > 0:
        return tuple(some_value(choice, deep - 1) for _ in range(choice.randint(0, 3)))
    if kind < 0.6:
        return "".join(choice.choice(PRINTABLE) for _ in range(choice.randint(0, 4)))
    if kind < 0.85:
        return choice.choice([-1, 1]) * choice.randint(0, choice.choice([3, 200, 10 ** 12]))
    return choice.choice([None, True, False])


def with_sums(signs):
    one = sum(signs) % 65521
    other = sum(sign * (at + 1) for at, sign in enumerate(signs)) % 65521
    return tuple(signs) + (one % 256, one // 256, other % 256, other // 256)


def entry_of(told):
    return with_sums((87, 72, len(told) % 256, len(told) // 256) + tuple(told))


def fault(signs):
    try:
        read_entry(signs)
    except InvalidEntry as error:
        return error.word
    return None


class EntriesTest(unittest.TestCase):
    def test_examples(self):
        self.assertEqual(write_entry((1, "ab")), (87, 72, 8, 0, 5, 2, 3, 2, 4, 2, 97, 98, 124, 1, 68, 10))
        self.assertTrue(same(read_entry(write_entry((-1, None, (True,)))), (-1, None, (True,))))

    def test_sums(self):
        self.assertEqual(sum_pair(()), (0, 0))
        self.assertEqual(sum_pair([1, 2, 3]), (6, 14))
        self.assertEqual(sum_pair((255,) * 4096), (255 * 4096 % 65521, 255 * (4096 * 4097 // 2) % 65521))
        check_ways(self, sum_pair, ((7, 0, 255),), lists=(0,))

    def test_signs_by_hand(self):
        for value, told in [(None, (0,)), (False, (1,)), (True, (2,)), (0, (3, 0)), (-1, (3, 1)), (1, (3, 2)), (-2, (3, 3)),
                            (63, (3, 126)), (-64, (3, 127)), (64, (3, 128, 1)), (8192, (3, 128, 128, 1)), ("", (4, 0)),
                            (" ~", (4, 2, 32, 126)), ((), (5, 0)), (((), (0,)), (5, 2, 5, 0, 5, 1, 3, 0)),
                            ("&$", (4, 2, 38, 36))]:
            self.assertEqual(write_entry(value), entry_of(told))
            self.assertTrue(same(read_entry(entry_of(told)), value))

    def test_one_way_each(self):
        choice = chance(59)
        seen = {}
        for _ in range(600):
            value = some_value(choice, 5)
            signs = write_entry(value)
            self.assertTrue(all(type(sign) is int and 0 <= sign < 256 for sign in signs))
            self.assertTrue(same(read_entry(signs), value))
            self.assertTrue(same(read_entry(list(signs)), value))
            self.assertTrue(same(seen.setdefault(signs, value), value))
        self.assertTrue(same(read_entry(write_entry(PRINTABLE)), PRINTABLE))

    def test_each_row_of_signs_is_of_one_value(self):
        choice = chance(60)
        right = 0
        for _ in range(20000):
            told = [choice.choice([0, 1, 2, 3, 3, 4, 5, 5, 32, 97, 128, 37, 255]) for _ in range(choice.randint(0, 6))]
            try:
                value = read_entry(entry_of(told))
            except InvalidEntry as error:
                self.assertEqual(error.word, "value")
            else:
                right += 1
                self.assertEqual(write_entry(value), entry_of(told))
        self.assertGreater(right, 100)

    def test_no_values(self):
        for told in [(), (6,), (3,), (3, 128), (3, 128, 0), (3, 129, 128, 0), (4, 1), (4, 1, 37), (4, 1, 31), (4, 1, 127),
                     (4, 2, 97), (5, 1), (5, 2, 0), (0, 0), (5, 0, 0), (4,), (5,), (4, 128, 0), (5, 128, 0), (255,),
                     (5, 255, 255, 255, 255, 1), (4, 255, 255, 255, 255, 1, 97), (5, 1) * 10 + (5, 0)]:
            self.assertEqual(fault(entry_of(told)), "value")
        self.assertTrue(same(read_entry(entry_of((5, 1) * 9 + (5, 0))), ((((((((((),),),),),),),),),)))

    def test_faults_in_order(self):
        entry = write_entry((1, "ab"))
        for signs in [None, 3, "WH", True, (87, 256), (87, -1), (87, True), (87, None), [[87]], ("W",), Likes(1, (), ())]:
            self.assertEqual(fault(signs), "signs")
            keeps(self, InvalidEntry, "signs", sum_pair, signs)
            keeps(self, InvalidEntry, "signs", read_log, signs)
        for signs in [(88,), (87, 71), (0, 72, 0, 0), (72, 87) + entry[2:], (88,) + entry[1:-1]]:
            self.assertEqual(fault(signs), "head")
        for many in range(len(entry)):
            self.assertEqual(fault(entry[:many]), "short")
        self.assertEqual(fault(entry + (0,)), "long")
        self.assertEqual(fault(entry + entry), "long")
        self.assertEqual(fault(entry[:-1] + (entry[-1] + 1,)), "sums")
        self.assertEqual(fault((87, 72, 0, 0)), "short")
        self.assertEqual(fault((87, 72, 0, 0, 0, 0, 0, 0)), "sums")
        self.assertEqual(fault(with_sums((87, 72, 0, 0))), "value")

    def test_long_ones(self):
        longest = "a" * 4085
        entry = write_entry(longest)
        self.assertEqual(len(entry), 4096)
        self.assertEqual(read_entry(entry), longest)
        keeps(self, InvalidSize, "entry", write_entry, longest + "a")
        keeps(self, InvalidSize, "entry", write_entry, (longest, 0))
        longer = entry_of((4,) + (118 + 128, 31) + (97,) * 4086)
        self.assertEqual(len(longer), 4097)
        self.assertEqual(fault(longer), "long")
        self.assertEqual(fault(longer[:-1]), "short")
        self.assertEqual(fault(longer + (0,)), "long")
        self.assertEqual(read_log(entry + longer), ((longest,), 4096))
        number = 2 ** 20000
        self.assertEqual(read_entry(write_entry(-number)), -number)

    def test_what_cannot_be_written(self):
        for value in ["%", "a%b", "\n", "\u00e9", [], [1], ([],), ((1, ["a"]),), ("%",), Likes(1, (), ()),
                      (Likes(1, (), ()),), deep_value(11), "%" * 5000, ("a" * 5000, [])]:
            keeps(self, InvalidValue, -1, write_entry, value)
        self.assertTrue(same(read_entry(write_entry(deep_value(10))), deep_value(10)))
        keeps(self, InvalidSize, "entry", write_entry, ("a" * 4084,))
        empty = ()
        for _ in range(9):
            empty = (empty,)
        self.assertTrue(same(read_entry(write_entry(empty)), empty))
        keeps(self, InvalidValue, -1, write_entry, (empty,))

    def test_spoilt_signs_are_told(self):
        choice = chance(61)
        for value in [None, "ab", (1, "x"), (5, (True, "~"), -300)]:
            entry = write_entry(value)
            for at in range(len(entry)):
                for sign in range(256):
                    if sign != entry[at]:
                        one = entry[:at] + (sign,) + entry[at + 1:]
                        self.assertIsNotNone(fault(one))
                        if choice.random() < 0.03:
                            other = choice.randrange(len(entry))
                            spoilt = one[:other] + (choice.randrange(256),) + one[other + 1:]
                            if spoilt != entry:
                                self.assertIsNotNone(fault(spoilt))
                for other in range(at + 1, len(entry)):
                    row = list(entry)
                    row[at], row[other] = row[other], row[at]
                    if tuple(row) != entry:
                        self.assertIsNotNone(fault(row))

    def test_logs(self):
        choice = chance(62)
        self.assertEqual(read_log(()), ((), 0))
        for _ in range(60):
            values = tuple(some_value(choice, 3) for _ in range(choice.randint(1, 5)))
            entries = [write_entry(value) for value in values]
            log = sum(entries, ())
            self.assertTrue(same(read_log(log), (values, len(log))))
            at = choice.randrange(len(log))
            whole = [many for many in range(len(entries) + 1) if sum(map(len, entries[:many])) <= at][-1]
            told = (values[:whole], sum(map(len, entries[:whole])))
            self.assertTrue(same(read_log(log[:at]), told))
            spoilt = log[:at] + ((log[at] + choice.randint(1, 255)) % 256,) + log[at + 1:]
            self.assertTrue(same(read_log(spoilt), told))
            check_ways(self, read_log, (spoilt,), lists=(0,))
        self.assertEqual(read_log(write_entry(1) + (87, 72, 1)), ((1,), len(write_entry(1))))

    def test_odd_values(self):
        for value in odd_values():
            for function in (sum_pair, read_entry, read_log, write_entry):
                check_ways(self, function, (value,))
        check_ways(self, write_entry, ((1, "a"),))
        check_ways(self, read_entry, (write_entry((1, "a")),), lists=(0,))


if __name__ == "__main__":
    unittest.main()
