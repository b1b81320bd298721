"""[69], [70]: the houses as a whole."""

import copy
import itertools
import unittest

from helpers import chance, check_ways, has_list, in_lists, keeps, odd_values, same
from test_comparing import TAKEN
from test_moments import closed
from test_papers import plain_holds as paper_holds
from worlds import marks_of, plain_done, plain_lot, plain_start, some_event, whole_word
from whoiswho.comparing import field_distance
from whoiswho.deeds import lot_web, told_people
from whoiswho.errors import InvalidComparer, InvalidDeed, InvalidEvents, InvalidIndex, InvalidSize, InvalidVector, NoHouse, Refused
from whoiswho.house import WhoHouse, house_behind
from whoiswho.keeping import Keeping
from whoiswho.moments import World

COMPARERS = ("edits", "apart")
RULE = ((("edits", 0, 1, (0, 5, 2, -3)), ("apart", 0, 2, (0, 3, 1, -2))), 3, (((1, "unlike"),),))
OTHER = ((("edits", 1, 2, (0, 4, 1, -9)), ("apart", 0, 0, (0, 2, 0, -4))), 4, ())
EVENTS = (("do", 0, ("put", ("ann", 3))), ("do", 0, ("rule", RULE)), ("write", 0), ("do", 1, ("put", ("anna", None))), ("read", 1, 0),
          ("write", 1), ("read", 0, 1))
METHODS = ("web_of", "vector_of", "people_of", "paper_of", "from_nothing")


def house_word(choice, book, seen):
    """A word of records and rules of the fields of COMPARERS."""
    fields = (choice.choice(["ann", "ann", "anna", "ben", None]), choice.choice([None, 3, 3, 4, 9]))
    return whole_word(choice, book, seen, ["put"] * 5 + ["change", "same", "unlike", "rule", "day", "back"], fields, [RULE, RULE, OTHER])


def some_fall(choice, state):
    """A fall, perhaps to a vector that is not let: too great, not closed, or without own deeds."""
    book, vectors, _ = state
    house = choice.randrange(len(vectors))
    vector = [choice.randint(0, many + (choice.random() < 0.05)) for many in vectors[house]]
    if choice.random() < 0.9:
        vector[house] = vectors[house][house]
    return ("fall", house, choice.choice([tuple(vector), vector]))


def plain_fall(state, event):
    """(state, vector) behind a fall, or the error that is due and what it keeps."""
    book, vectors, letters = state
    house, vector = event[1], tuple(event[2])
    if any(mine < theirs for mine, theirs in zip(vectors[house], vector)):
        return InvalidVector, -1
    if vector[house] < vectors[house][house] or not closed(book, vector):
        return Refused, house
    return (book, vectors[:house] + [vector] + vectors[house + 1:], letters), vector


def links_in_order(links):
    return sorted(links, key=lambda link: (-link[0], link[1:]))


def plain_anew(before, after):
    """How many fates [30] tells anew from one web to another, in the order of [69]."""
    kept = Keeping(*before)
    many = sum(kept.take_bar(*bar) for bar in sorted(before[2]) if bar not in after[2])
    many += sum(kept.take_link(*link[1:]) for link in links_in_order(before[1]) if link not in after[1])
    for name in sorted(set(before[0]) | set(after[0])):
        if name not in before[0]:
            kept.put_name(name)
        elif name not in after[0]:
            kept.take_name(name)
    many += sum(kept.put_bar(*bar) for bar in sorted(after[2]) if bar not in before[2])
    return many + sum(kept.put_link(*link) for link in links_in_order(after[1]) if link not in before[1])


class HouseTest(unittest.TestCase):
    def check(self, whole, state):
        book, vectors, letters = state
        self.assertTrue(same((whole.world.book, whole.world.vectors, whole.world.letters),
                             (tuple(map(tuple, book)), tuple(vectors), tuple(letters))))
        lots = {}
        for house, vector in enumerate(vectors):
            lot = plain_lot(book, marks_of(vector))
            web, people = lot_web(lot), told_people(lot)
            self.assertTrue(same(whole.vector_of(house), vector))
            self.assertTrue(same(whole.web_of(house), web))
            self.assertTrue(same(whole.people_of(house), people))
            self.assertTrue(same(whole.from_nothing(house), people))
            paper = whole.paper_of(house)
            self.assertEqual(paper[0], people)
            self.assertTrue(paper_holds(*web, paper))
            # A function of the lot of words that stand, with their ranks.
            self.assertEqual(lots.setdefault(lot, people), people)
        return [lot_web(plain_lot(book, marks_of(vector))) for vector in vectors]

    def test_rows_of_events(self):
        choice = chance(69)
        found = {"do": 0, "read": 0, "write": 0, "fall": 0, "wrong": 0}
        anew = {}
        for _ in range(40):
            houses = choice.randint(1, 3)
            whole, state, done_events = WhoHouse(houses, choice.choice([COMPARERS, list(COMPARERS)])), plain_start(houses), []
            webs = self.check(whole, state)
            self.assertTrue(same(whole.anew, 0))
            for _ in range(22):
                is_fall = choice.random() < 0.2
                event = some_fall(choice, state) if is_fall else some_event(choice, state, house_word)
                done = plain_fall(state, event) if is_fall else plain_done(state, event)
                if done is None:
                    done = (InvalidIndex if event[0] == "read" else InvalidDeed), -1
                passed = event if choice.random() < 0.8 else list(event)
                if isinstance(done[0], type):
                    before = whole.anew
                    keeps(self, *done, whole.do_event, passed)
                    self.assertTrue(same(whole.anew, before))
                    found["wrong"] += 1
                    self.check(whole, state)
                    continue
                state = done[0]
                found[event[0]] += 1
                self.assertTrue(same(whole.do_event(passed), done[1]))
                done_events.append(event)
                behind = self.check(whole, state)
                many = plain_anew(webs[event[1]], behind[event[1]])
                self.assertTrue(same(whole.anew, many))
                anew[many] = anew.get(many, 0) + 1
                webs = behind
            other = house_behind(houses, COMPARERS, choice.choice([done_events, tuple(done_events)]))
            self.check(other, state)
            self.assertTrue(same(other.anew, whole.anew))
        self.assertGreater(min(found.values()), 20)
        self.assertGreater(min(anew[many] for many in range(3)), 5)
        self.assertGreater(max(anew), 3)

    def test_the_order_of_letters_is_nothing(self):
        # Letters late, twice, in any order: who has read what all know tells what all will.
        choice = chance(70)
        for _ in range(12):
            houses, state, events = 3, plain_start(3), []
            while len(events) < 14:
                event = some_event(choice, state, house_word)
                done = plain_done(state, event)
                if done is not None and event[0] != "read" or done is not None and choice.random() < 0.3:
                    state = done[0]
                    events.append(event)
            events += [("write", house) for house in range(houses)]
            last = len([event for event in events if event[0] == "write"]) - houses
            told = []
            for _ in range(3):
                order = list(itertools.chain(*[[("read", house, last + letter) for letter in range(houses)] for house in range(houses)])) * 2
                choice.shuffle(order)
                whole = house_behind(houses, COMPARERS, events + order)
                told += [(whole.vector_of(house), whole.people_of(house)) for house in range(houses)]
            self.assertEqual(len(set(told)), 1)

    def test_backs_are_as_if_never(self):
        choice = chance(701)
        for _ in range(30):
            state, events = plain_start(1), []
            while len(events) < 12:
                event = some_event(choice, state, house_word)
                if event[0] == "do" and event[2][0] != "back" and plain_done(state, event):
                    state = plain_done(state, event)[0]
                    events.append(event)
            whole = house_behind(1, COMPARERS, events)
            told, ranks = whole.people_of(0), whole.world.book
            for word in (("put", ("anna", 3)), ("rule", OTHER), ("same", (0, 0), (0, 1)), ("unlike", (0, 0), (0, 1))):
                more = events + [("do", 0, word), ("do", 0, ("back", (0, 12)))]
                if word[0] in ("put", "rule") or all(events[at][2][0] == "put" for at in (0, 1)):
                    other = house_behind(1, COMPARERS, more)
                    self.assertEqual(other.people_of(0), told)
                    self.assertEqual(other.world.book[0][:12], ranks[0])

    def test_by_hand(self):
        whole = house_behind(2, COMPARERS, EVENTS)
        self.assertEqual((whole.people_of(0), whole.people_of(1)), ((((0, 0),), ((1, 0),)), (((0, 0),), ((1, 0),))))
        self.assertEqual(whole.web_of(1), (((0, 0), (1, 0)), (), ()))
        self.assertEqual(whole.do_event(["do", 0, ("same", (0, 0), (1, 0))]), (0, 2))
        self.assertEqual((whole.people_of(0), whole.anew), ((((0, 0), (1, 0)),), 1))
        self.assertEqual((whole.people_of(1), whole.vector_of(1)), ((((0, 0),), ((1, 0),)), (2, 1)))
        self.assertEqual(whole.do_event(("write", 0)), 2)
        self.assertEqual(whole.anew, 0)
        self.assertEqual(whole.do_event(("fall", 1, [0, 1])), (0, 1))
        self.assertEqual((whole.vector_of(1), whole.people_of(1), whole.world.vectors), ((0, 1), (((1, 0),),), ((3, 1), (0, 1))))
        self.assertEqual(whole.do_event(("read", 1, 2)), (3, 1))
        self.assertEqual((whole.people_of(1), whole.anew), ((((0, 0), (1, 0)),), 1))
        self.assertIsInstance(whole.world, World)
        self.assertEqual(whole.paper_of(1), ((((0, 0), (1, 0)),), ()))

    def unchanged(self, whole, error, kept, event):
        before = copy.deepcopy([whole.anew, vars(whole.world), [vars(row) for row in whole._kept]])
        keeps(self, error, kept, whole.do_event, event)
        self.assertEqual(before, [whole.anew, vars(whole.world), [vars(row) for row in whole._kept]])

    def test_wrong_events(self):
        whole = house_behind(2, COMPARERS, EVENTS)
        for event in odd_values() + [("do",), ("do", 0), ("fall", 0), ("fall", 0, (0, 0), 0), ("Fall", 0, (0, 0)), (["fall"], 0, (0, 0)), "fall"]:
            self.unchanged(whole, InvalidEvents, -1, event)
        for house in (2, -1, True, None, "0", (0,)):
            for event in (("do", house, None), ("do", house, ("put", ("a",))), ("write", house), ("read", house, None), ("fall", house, None)):
                self.unchanged(whole, NoHouse, house, event)
        # Other fields than of the comparers.
        for word in [("put", ("a",)), ("put", ("a", 3, 3)), ("put", (3, "a")), ("put", ("a", True)), ("put", [("a", 3)]), ("put", ("a", "3")),
                     ("put", ["a", 3]), ("change", (0, 0), ("a",)), ("change", (0, 0), (("a",), 3)), ("rule", None), ("rule", ()), ("rule", list(RULE)),
                     ("rule", (RULE[0][:1], 3, ())), ("rule", (RULE[0][::-1], 3, ())), ("rule", (RULE[0] * 2, 3, ())), ("puts", ("a", 3)),
                     ("rule", (RULE[0], 3, None)), None, 3, (), "put", ("put",), (["put"], ("a", 3)), ("back", (0, 5)), ("same", (0, 0), (0, 1)),
                     ("put", ("a", 3), 0), ["put", ("a", 3)], ("change", ("a", 3))]:
            self.unchanged(whole, InvalidDeed, -1, ("do", 0, word))
        for letter in (2, -1, True, None):
            self.unchanged(whole, InvalidIndex, -1, ("read", 0, letter))
        for vector in (None, 3, "ab", (), (0,), (2, 1, 0), (3, 1), [2, 2], (-1, 1), (True, 1), (2, None), [[2], 1]):
            self.unchanged(whole, InvalidVector, -1, ("fall", 0, vector))
        self.unchanged(whole, Refused, 0, ("fall", 0, (1, 1)))
        self.unchanged(whole, Refused, 1, ("fall", 1, (2, 0)))
        whole.do_event(("do", 1, ("put", ("b", 3))))
        self.unchanged(whole, Refused, 1, ("fall", 1, [1, 2]))
        whole.do_event(("fall", 1, (2, 2)))

    def test_houses(self):
        whole = house_behind(2, COMPARERS, EVENTS)
        for method in METHODS:
            for house in odd_values():
                if not (type(house) is int and house in (0, 1)):
                    keeps(self, NoHouse, house, getattr(whole, method), house)
            self.assertFalse(has_list(getattr(whole, method)(house=1)))
        with self.assertRaises(TypeError):
            iter(whole)
        with self.assertRaises(TypeError):
            len(whole)

    def test_sizes(self):
        for function, rest in ((WhoHouse, ()), (house_behind, (None,))):
            for houses in (0, 9, -1, True, None, "2", (2,)):
                keeps(self, InvalidSize, "houses", function, houses, None, *rest)
            for comparers in (None, 3, True, "exact", (), [], ("exact",) * 7):
                keeps(self, InvalidSize, "comparers", function, 2, comparers, *rest)
            for comparer in (None, "Exact", 3, True, ["exact"], ""):
                with self.assertRaises(InvalidComparer):
                    function(2, ["exact", comparer], *rest)
        self.assertEqual(WhoHouse(comparers=["exact"] * 6, houses=8).vector_of(7), (0,) * 8)
        for events in (None, 3, True, "ab"):
            keeps(self, InvalidEvents, -1, house_behind, 2, COMPARERS, events)
        for event in (None, ("do", 2, ("day", ())), ("do", 0, ("put", ("a",))), ("fall", 0, (5, 5)), ("read", 0, 0)):
            keeps(self, InvalidEvents, 1, house_behind, 2, COMPARERS, [EVENTS[0], event, None])
        check_ways(self, house_behind, (2, COMPARERS, ()), lists=(1, 2))

    def test_all_comparers(self):
        for comparer in TAKEN:
            whole = WhoHouse(1, [comparer])
            rule = (((comparer, 0, 0, (0, 1, 1, 0)),), 1, ())
            whole.do_event(("do", 0, ("rule", rule)))
            for value in TAKEN[comparer]:
                whole.do_event(("do", 0, ("put", (value,))))
            home = {name: group for group in whole.people_of(0) for name in group}
            for one, other in itertools.combinations(range(len(TAKEN[comparer])), 2):
                if field_distance(comparer, TAKEN[comparer][one], TAKEN[comparer][other]) == 0:
                    self.assertEqual(home[(0, one + 1)], home[(0, other + 1)])
            self.assertEqual(whole.people_of(0), whole.from_nothing(0))

    def test_passed_lists_have_no_effect(self):
        vector, event, comparers = [0, 1], ["write", 0], list(COMPARERS)
        whole = house_behind(2, comparers, EVENTS)
        comparers.append("exact")
        fall = ["fall", 1, vector]
        whole.do_event(fall)
        vector[0] = 7
        fall[2] = None
        self.assertEqual((whole.vector_of(1), whole.do_event(event), event), ((0, 1), 2, ["write", 0]))
        self.assertEqual(whole.do_event(("do", 0, ("put", ("x", None)))), (0, 2))
        keeps(self, InvalidDeed, -1, whole.do_event, in_lists(("do", 0, ("put", ("x", None)))))


if __name__ == "__main__":
    unittest.main()
