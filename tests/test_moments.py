"""[62], [63]: worlds, what houses told at a moment, and which moments may have been."""

import copy
import itertools
import unittest

from helpers import chance, check_ways, has_list, in_lists, keeps, odd_values, outcome, same
from test_deeds import no_lists, plain_word
from worlds import RULES, marks_of, plain_done, plain_lot, plain_start, some_event, some_events, some_world, told_word
from whoiswho.books import lower_book
from whoiswho.deeds import told_people
from whoiswho.errors import InvalidBook, InvalidDeed, InvalidEvents, InvalidIndex, InvalidLot, InvalidSize, InvalidVector, NoHouse
from whoiswho.errors import Refused
from whoiswho.moments import World, events_world, possible_events, possible_fault, possible_people, possible_vectors, told_at
from whoiswho.moments import told_from, vector_at

PUT = ("put", ("ann",))
EVENTS = (("do", 0, PUT), ("write", 0), ("do", 0, ("rule", RULES[0])), ("read", 1, 0), ("do", 1, PUT), ("write", 1), ("read", 0, 1))
BOOK = ((((0, 0), PUT), ((1, 0), ("rule", RULES[0]))), (((1, 0), PUT),))
# The second house's deed is seen by none; the first one's second deed is seen by the other's second.
OPEN = ((((0, 0), PUT), ((1, 1), PUT)), (((0, 0), PUT), ((2, 1), PUT)))


def closed(book, vector):
    return all(max(part, theirs) == part for house, many in enumerate(vector) for deed in book[house][:many]
               for part, theirs in zip(vector, deed[0]))


def plain_fault(book, house, vector):
    for mark in marks_of(vector):
        for other, many in enumerate(book[mark[0]][mark[1]][0]):
            if many > vector[other]:
                return ("open", mark, other)
    if vector[house] < len(book[house]):
        for other, many in enumerate(book[house][vector[house]][0]):
            if many < vector[other]:
                return ("late", other)
    return None


def all_vectors(book):
    return list(itertools.product(*[range(len(row) + 1) for row in book]))


def plain_from(book, vector):
    return told_people(plain_lot(book, marks_of(vector)))


class WorldTest(unittest.TestCase):
    def check(self, world, state):
        self.assertTrue(same(world.book, tuple(tuple(row) for row in state[0])))
        self.assertTrue(same(world.vectors, tuple(state[1])))
        self.assertTrue(same(world.letters, tuple(state[2])))

    def test_events(self):
        choice = chance(62)
        done_many, refused = 0, {InvalidDeed: 0, InvalidIndex: 0}
        for _ in range(60):
            houses = choice.randint(1, 4)
            world, state = World(houses), plain_start(houses)
            self.check(world, state)
            for _ in range(25):
                event = some_event(choice, state)
                done = plain_done(state, event)
                passed = event if choice.random() < 0.7 else list(event)
                if done is None:
                    error = InvalidIndex if event[0] == "read" else InvalidDeed
                    refused[error] += 1
                    keeps(self, error, -1, world.do_event, passed)
                else:
                    done_many += 1
                    state = done[0]
                    self.assertTrue(same(world.do_event(passed), done[1]))
                self.check(world, state)
            for vector in world.vectors + world.letters:
                self.assertTrue(closed(world.book, vector))
        self.assertGreater(min(refused.values()), 10)
        self.assertGreater(done_many, 500)

    def unchanged(self, world, error, kept, event):
        before = copy.deepcopy(vars(world))
        keeps(self, error, kept, world.do_event, event)
        self.assertTrue(same(list(before.values()), list(vars(world).values())))

    def test_wrong_events(self):
        world = events_world(2, EVENTS)
        for event in odd_values() + [("do",), ("do", 0), ("do", 0, PUT, 0), ("write",), ("write", 0, 0), ("read", 0), ("fall", 0, (0, 0)),
                                     ("Do", 0, PUT), (["do"], 0, PUT), (0, 0, 0), "do", (None, 0), ("write", 0, None), ("", 0)]:
            self.unchanged(world, InvalidEvents, -1, event)
        for house in (2, -1, True, None, "0", (0,), [0], 10 ** 20):
            for event in (("do", house, None), ("write", house), ("read", house, None)):
                self.unchanged(world, NoHouse, house, event)
        for letter in (2, -1, False, None, "0", (0,)):
            self.unchanged(world, InvalidIndex, -1, ("read", 0, letter))

    def test_wrong_words(self):
        world = events_world(2, EVENTS + (("do", 0, ("day", ())), ("do", 1, ("back", (1, 0))), ("do", 1, PUT)))
        self.assertEqual(world.vectors, ((3, 1), (1, 3)))
        for word in odd_values() + [["put", ("a",)], ("put", ["a"]), ("put", ()), ("put", (True,)), ("rule", ()), ("rule", list(RULES[0])),
                                    ("day", [0]), ("day", 0), ("back",), ("back", 0), ("back", [0, 0]), ("back", (0, 0), 0), ("puts", ("a",)),
                                    ("change", (0, 0), ()), ("same", (0, 0), (0, 0)), ("unlike", (1, 0), (0, 0)), ("rule", (RULES[0],))]:
            self.unchanged(world, InvalidDeed, -1, ("do", 0, word))
        # What it hasn't seen, or may not name: a rule, a day, a back.
        for word in [("back", (1, 1)), ("back", (1, 2)), ("back", (0, 3)), ("back", (0, 2)), ("same", (0, 0), (1, 2)),
                     ("same", (0, 0), (0, 1)), ("unlike", (0, 0), (0, 2)), ("change", (0, 1), ("a",)), ("change", (2, 0), ("a",)), ("back", (2, 0))]:
            self.unchanged(world, InvalidDeed, -1, ("do", 0, word))
        for word in [("same", (0, 0), (1, 1)), ("change", (1, 1), ("a",)), ("back", (1, 1)), ("unlike", (1, 0), (1, 1))]:
            self.unchanged(world, InvalidDeed, -1, ("do", 1, word))
        # A day may hold any tuple; a put that was taken back may be named again.
        for word in [("day", (None, True, ("\n",))), ("change", (1, 0), ("a",)), ("same", (0, 0), (1, 0)), ("back", (1, 0)),
                     ("put", (None, 3, ("a", "b")))]:
            self.assertEqual(world.do_event(("do", 1, word))[0], 1)

    def test_sizes(self):
        for houses in (0, 9, -1, True, None, "2", (2,), [2]):
            keeps(self, InvalidSize, "houses", World, houses)
            for function, rest in ((events_world, (None,)), (vector_at, (None,) * 3), (told_at, (None,) * 3)):
                keeps(self, InvalidSize, "houses", function, houses, *rest)
        self.assertEqual(World(8).vectors, ((0,) * 8,) * 8)
        self.assertEqual(World(houses=1).book, ((),))
        with self.assertRaises(TypeError):
            iter(World(1))
        with self.assertRaises(TypeError):
            len(World(1))

    def test_words_are_those_of_lots(self):
        choice = chance(621)
        values = odd_values()
        for _ in range(300):
            rest = tuple(choice.choice(values) for _ in range(choice.randint(0, 3)))
            word = (choice.choice(["put", "rule", "day", "change", "same", "unlike"]),) + rest
            world = events_world(1, [("do", 0, PUT)] * 2)
            fine = plain_word(word) and all(mark in ((0, 0), (0, 1)) for mark in {"change": word[1:2], "same": word[1:],
                                                                                 "unlike": word[1:]}.get(word[0], ()))
            self.assertEqual(outcome(world.do_event, ("do", 0, word))[0], "returns" if fine else "raises", word)
            if fine:
                self.assertTrue(no_lists(word))


class MomentTest(unittest.TestCase):
    def test_moments(self):
        choice = chance(622)
        told = {}
        for _ in range(50):
            houses = choice.randint(1, 3)
            events, _ = some_events(choice, houses, choice.randint(0, 20))
            world = events_world(houses, events)
            state, stages = plain_start(houses), [plain_start(houses)]
            for event in events:
                state = plain_done(state, event)[0]
                stages.append(state)
            self.assertTrue(same((world.book, world.vectors, world.letters),
                                 (tuple(map(tuple, state[0])), tuple(state[1]), tuple(state[2]))))
            for moment in {0, len(events), choice.randint(0, len(events)), choice.randint(0, len(events))}:
                for house in range(houses):
                    vector = stages[moment][1][house]
                    self.assertTrue(same(vector_at(houses, events, moment, house), vector))
                    people = plain_from(world.book, vector)
                    told[len(people)] = told.get(len(people), 0) + 1
                    self.assertTrue(same(told_at(houses, list(events), moment, house), people))
                    # The same of any later book.
                    self.assertTrue(same(told_from(world.book, vector), people))
                    self.assertTrue(same(told_from(lower_book(world.book, world.vectors[house]), vector), people)
                                    if all(a <= b for a, b in zip(vector, world.vectors[house])) else True)
        self.assertGreater(min(told[many] for many in range(4)), 4)

    def test_by_hand(self):
        self.assertEqual(vector_at(2, EVENTS, 6, 0), (2, 0))
        self.assertEqual(vector_at(2, EVENTS, 7, 0), (2, 1))
        self.assertEqual(told_at(2, EVENTS, 6, 0), (((0, 0),),))
        self.assertEqual(told_at(2, EVENTS, 7, 0), (((0, 0), (1, 0)),))
        self.assertEqual(told_from(BOOK, (1, 1)), (((0, 0),), ((1, 0),)))
        self.assertEqual(events_world(2, EVENTS).book, BOOK)
        self.assertEqual(told_at(events=in_lists(EVENTS[:2][1:]), houses=2, house=1, moment=1), ())

    def test_errors(self):
        for function in (events_world, vector_at, told_at):
            rest = () if function is events_world else (None, None)
            for value in (None, 3, True, "ab", {}):
                keeps(self, InvalidEvents, -1, function, 2, value, *rest)
            for event in (None, ("do", 0, ("put", [])), ("write", 2), ("read", 0, 0), ("fall", 0, (0, 0)), ("do", 0, ("back", (0, 1)))):
                keeps(self, InvalidEvents, 1, function, 2, [EVENTS[0], event, None], *rest)
            for value in odd_values():
                check_ways(self, function, (2, value) + rest)
                check_ways(self, function, (2, (EVENTS[0], value)) + rest)
            check_ways(self, function, (2, EVENTS) + (() if function is events_world else (3, 1)))
        for function in (vector_at, told_at):
            for moment in (8, -1, True, None, "1", (1,), [1]):
                keeps(self, InvalidIndex, -1, function, 2, EVENTS, moment, None)
            for house in (2, -1, True, None, "1", (1,)):
                keeps(self, NoHouse, house, function, 2, EVENTS, 7, house)
        # Lists stand for events, not for words.
        self.assertEqual(outcome(events_world, 2, [list(event) for event in EVENTS]), outcome(events_world, 2, EVENTS))
        keeps(self, InvalidEvents, 0, events_world, 2, in_lists(EVENTS))

    def test_errors_of_books(self):
        for value in odd_values():
            if value not in ((), [], ((),)) and not (type(value) is tuple and value == ((),)):
                keeps(self, InvalidBook, 0 if type(value) is tuple and value else -1, told_from, value, None)
            if not same(value, (0, 0)) and not same(value, (0, 1)):
                keeps(self, InvalidVector, -1, told_from, BOOK, value)
        for vector in ((3, 0), (0, 2), (0,), (0, 0, 0), [0, 0], (True, 0), (-1, 0)):
            keeps(self, InvalidVector, -1, told_from, BOOK, vector)
        keeps(self, Refused, -1, told_from, BOOK, (0, 1))
        # Behind all else the errors of lots: of words that stand in no lot, of rules that don't take all fields.
        wrong = ((((0,), ("day", ())), ((1,), ("put", ()))),)
        keeps(self, InvalidLot, 1, told_from, wrong, (2,))
        self.assertEqual(told_from(wrong, (1,)), ())
        keeps(self, InvalidVector, -1, told_from, wrong, (3,))
        events = (("do", 0, ("put", (3,))), ("do", 0, ("rule", RULES[0])), ("do", 0, ("back", (0, 1))))
        for function in (vector_at, told_at):
            for moment in range(4):
                if function is told_at and moment == 2:
                    keeps(self, InvalidLot, -1, function, 1, events, moment, 0)
                else:
                    self.assertEqual(function(1, events, moment, 0)[:1], ((((0, 0),),) if moment else ()) if function is told_at else (moment,))


class PossibleTest(unittest.TestCase):
    def reached(self, book):
        """For each house all vectors that it has by some events that come to just this book."""
        goal = tuple(map(len, book))
        start = (tuple((0,) * len(book) for _ in book), frozenset([(0,) * len(book)]))
        behind, rows = {}, [start]
        for vectors, had in rows:
            further = []
            for house, vector in enumerate(vectors):
                ways = [tuple(map(max, vector, letter)) for letter in had]
                if vector[house] < goal[house] and book[house][vector[house]][0] == vector:
                    ways.append(vector[:house] + (vector[house] + 1,) + vector[house + 1:])
                for way in ways:
                    if way != vector:
                        further.append((vectors[:house] + (way,) + vectors[house + 1:], had | {way}))
            behind[(vectors, had)] = further
            for state in further:
                if state not in behind:
                    behind[state] = None
                    rows.append(state)
        good = set()
        for state in reversed(sorted(rows, key=lambda row: sum(map(sum, row[0])))):
            if all(vector[house] == goal[house] for house, vector in enumerate(state[0])) or good & set(behind[state]):
                good.add(state)
        return [{state[0][house] for state in good} for house in range(len(book))]

    def test_against_all_events(self):
        choice = chance(63)
        many = 0
        for _ in range(40):
            houses = choice.randint(1, 3)
            book, _ = some_world(choice, houses, choice.randint(0, 5 if houses < 3 else 4), told_word)
            for house, vectors in enumerate(self.reached(book)):
                many += len(vectors)
                self.assertTrue(same(possible_vectors(book, house), tuple(sorted(vectors))))
                for vector in all_vectors(book):
                    self.assertEqual(possible_fault(book, house, vector) is None, vector in vectors)
        self.assertGreater(many, 150)

    def test_faults_and_events(self):
        choice = chance(631)
        found = {None: 0, "open": 0, "late": 0}
        for _ in range(40):
            book, _ = some_world(choice, choice.randint(1, 3), choice.randint(0, 9), told_word)
            for house in range(len(book)):
                vectors = []
                for vector in all_vectors(book):
                    fault = plain_fault(book, house, vector)
                    found[fault and fault[0]] += 1
                    self.assertTrue(same(possible_fault(book, house, vector), fault))
                    if fault is not None:
                        keeps(self, Refused, "fault", possible_events, book, house, vector)
                        continue
                    vectors.append(vector)
                    if choice.random() < 0.3:
                        events, moment = possible_events(book, house, vector)
                        self.assertFalse(has_list(events))
                        self.assertEqual(events_world(len(book), events).book, book)
                        self.assertEqual(vector_at(len(book), events, moment, house), vector)
                self.assertTrue(same(possible_vectors(book, house), tuple(sorted(vectors))))
                people = {plain_from(book, vector) for vector in vectors}
                self.assertTrue(same(possible_people(book, house), tuple(sorted(people))))
        self.assertGreater(min(found.values()), 60)

    def test_longer_books(self):
        choice = chance(632)
        for _ in range(3):
            book, _ = some_world(choice, 3, 32, told_word)
            vectors = possible_vectors(book, 1)
            self.assertIn(tuple(map(len, book)), vectors)
            self.assertIn((0, 0, 0), vectors)
            for vector in choice.sample(vectors, 3):
                events, moment = possible_events(book, 1, vector)
                self.assertEqual(vector_at(3, events, moment, 1), vector)
                self.assertIn(told_from(book, vector), possible_people(book, 1))

    def test_by_hand(self):
        self.assertEqual(possible_fault(BOOK, 0, (0, 1)), ("open", (1, 0), 0))
        self.assertEqual(possible_fault(BOOK, 1, (2, 0)), ("late", 0))
        self.assertIsNone(possible_fault(BOOK, 1, (2, 1)))
        self.assertEqual(possible_vectors(BOOK, 1), ((0, 0), (1, 0), (1, 1), (2, 1)))
        self.assertEqual(possible_people(BOOK, 1), ((), (((0, 0),),), (((0, 0),), ((1, 0),)), (((0, 0), (1, 0)),)))
        self.assertEqual(possible_fault(OPEN, 1, (2, 0)), ("open", (0, 1), 1))
        self.assertEqual(possible_events(((),), 0, (0,)), ((), 0))

    def test_errors(self):
        half = ((((0, 1), PUT),), ())
        for function, rest in ((possible_fault, (None,)), (possible_events, (None,)), (possible_vectors, ()), (possible_people, ())):
            for value in odd_values():
                if not same(value, ((),)):
                    keeps(self, InvalidBook, 0 if type(value) is tuple and value else -1, function, value, None, *rest)
                check_ways(self, function, (value, 0) + rest)
                check_ways(self, function, (BOOK, value) + rest)
            # A book that isn't closed is refused ahead of a wrong house.
            keeps(self, Refused, -1, function, half, None, *rest)
            for house in (2, -1, True, None, "0", (0,)):
                keeps(self, NoHouse, house, function, BOOK, house, *rest)
        for function in (possible_fault, possible_events):
            for vector in (None, 3, True, "ab", (), (0,), (0, 0, 0), [0, 0], (0, True), (3, 0), (0, 2), (-1, 0), (0, "1")):
                keeps(self, InvalidVector, -1, function, BOOK, 0, vector)
            for value in odd_values():
                check_ways(self, function, (BOOK, 0, value))
            check_ways(self, function, (BOOK, 0, (1, 0)))
        keeps(self, InvalidLot, 0, possible_people, ((((0,), ("put", ())),),), 0)


if __name__ == "__main__":
    unittest.main()
