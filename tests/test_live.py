"""[72]: houses by hand, events taken back and thought of otherwise."""

import copy
import unittest

from helpers import chance, has_list, in_lists, keeps, odd_values, same
from test_house import COMPARERS, EVENTS, house_word, some_fall
from worlds import plain_start, some_event
from whoiswho.errors import InvalidComparer, InvalidDeed, InvalidEvents, InvalidIndex, InvalidSize, NoHouse, WhoError
from whoiswho.house import WhoHouse, house_behind
from whoiswho.live import Live


def people_of(whole, houses):
    return tuple(whole.people_of(house) for house in range(houses))


def behind(houses, events):
    """(how many can be done, all people then)."""
    whole = WhoHouse(houses, COMPARERS)
    for at, event in enumerate(events):
        try:
            whole.do_event(event)
        except WhoError:
            return at, people_of(whole, houses)
    return len(events), people_of(whole, houses)


def state_of(whole):
    """The state of houses as the generators of events take it."""
    world = whole.world
    return [list(row) for row in world.book], list(world.vectors), list(world.letters)


def tuples(value):
    return tuple(tuples(thing) for thing in value) if isinstance(value, (list, tuple)) else value


class LiveTest(unittest.TestCase):
    def check(self, live, houses, events):
        self.assertTrue(same(live.events, tuple(events)))
        self.assertTrue(same((live.houses, live.comparers), (houses, COMPARERS)))
        other = house_behind(houses, COMPARERS, events)
        self.assertTrue(same(state_of(live.whole), state_of(other)))
        self.assertTrue(same(live.whole.anew, other.anew))
        for house in range(houses):
            self.assertTrue(same(live.whole.paper_of(house), other.paper_of(house)))
        self.assertTrue(same(live.all_people(), people_of(other, houses)))

    def test_rows_of_moves(self):
        choice = chance(72)
        found = {"do": 0, "wrong": 0, "undo": 0, "no undo": 0, "redo": 0, "no redo": 0}
        for _ in range(25):
            houses = choice.randint(1, 3)
            live, events, undone = Live(houses, list(COMPARERS)), [], []
            for _ in range(25):
                kind = choice.random()
                if kind < 0.2:
                    self.assertIs(live.undo_event(), bool(events))
                    found["undo" if events else "no undo"] += 1
                    if events:
                        undone.append(events.pop())
                elif kind < 0.4:
                    self.assertIs(live.redo_event(), bool(undone))
                    found["redo" if undone else "no redo"] += 1
                    if undone:
                        events.append(undone.pop())
                else:
                    state = state_of(live.whole)
                    event = some_fall(choice, state) if kind < 0.5 else some_event(choice, state, house_word)
                    passed = event if choice.random() < 0.7 else list(event)
                    try:
                        told = live.do_event(passed)
                    except WhoError as error:
                        found["wrong"] += 1
                        keeps(self, type(error), list(vars(error).values())[0], house_behind(houses, COMPARERS, events).do_event, event)
                    else:
                        found["do"] += 1
                        self.assertTrue(same(told, house_behind(houses, COMPARERS, events).do_event(event)))
                        events.append(tuples(event))
                        undone = []
                self.check(live, houses, events)
            self.check_thoughts(choice, live, houses, events)
        self.assertGreater(min(found.values()), 4)

    def check_thoughts(self, choice, live, houses, events):
        for number in range(len(events) + 1):
            self.assertTrue(same(live.people_then(number), behind(houses, events[:number])[1]))
        for _ in range(4 if events else 0):
            number = choice.randrange(len(events))
            event = choice.choice([some_event(choice, plain_start(houses), house_word), ("write", 0), None, choice.choice(events)])
            told = behind(houses, events[:number] + [event] + events[number + 1:])
            self.assertTrue(same(live.people_if(number, event), told))
            self.assertTrue(same(live.people_if(event=list(event) if event else event, number=number), told))
            self.assertFalse(has_list(live.people_if(number, event)))
        self.check(live, houses, events)

    def test_by_hand(self):
        live = Live(2, COMPARERS)
        self.assertEqual((live.undo_event(), live.redo_event(), live.all_people()), (False, False, ((), ())))
        for event in EVENTS[:4]:
            live.do_event(event)
        self.assertEqual(live.all_people(), ((((0, 0),),), (((1, 0),),)))
        self.assertEqual((live.undo_event(), live.undo_event(), live.redo_event(), live.undo_event()), (True,) * 4)
        self.assertEqual((live.events, live.all_people()), (EVENTS[:2], ((((0, 0),),), ())))
        # A new event: what was taken back is gone.
        live.do_event(["fall", 1, [0, 0]])
        self.assertEqual((live.redo_event(), live.events), (False, EVENTS[:2] + (("fall", 1, (0, 0)),)))
        self.assertEqual(live.people_if(0, ("write", 1)), (3, ((), ())))
        self.assertEqual(live.people_if(0, ("read", 0, 0)), (0, ((), ())))
        # A wrong event keeps what was taken back.
        live.undo_event()
        keeps(self, InvalidDeed, -1, live.do_event, ("do", 0, ("put", ("a",))))
        self.assertIs(live.redo_event(), True)

    def test_errors(self):
        for houses in (0, 9, True, None):
            keeps(self, InvalidSize, "houses", Live, houses, None)
        for comparers in (None, (), "exact", ("exact",) * 7):
            keeps(self, InvalidSize, "comparers", Live, 1, comparers)
        with self.assertRaises(InvalidComparer):
            Live(1, ["exact", "Exact"])
        live = Live(comparers=COMPARERS, houses=2)
        for event in EVENTS:
            live.do_event(event=event)
        before = copy.deepcopy([live.events, state_of(live.whole), live._undone])
        for value in odd_values():
            keeps(self, InvalidEvents, -1, live.do_event, value)
            if not (type(value) is int and 0 <= value <= 7):
                keeps(self, InvalidIndex, -1, live.people_then, value)
                keeps(self, InvalidIndex, -1, live.people_if, value, None)
            self.assertEqual(live.people_if(1, value)[0], 1)
        for number in (7, -1, True, None):
            keeps(self, InvalidIndex, -1, live.people_if, number, ("write", 0))
        keeps(self, InvalidIndex, -1, live.people_then, 8)
        keeps(self, NoHouse, 5, live.do_event, ("fall", 5, None))
        self.assertEqual(before, [live.events, state_of(live.whole), live._undone])
        with self.assertRaises(TypeError):
            iter(live)
        with self.assertRaises(TypeError):
            len(live)
        event = ["fall", 1, [2, 1]]
        live.do_event(event)
        event[2][0] = 9
        self.assertEqual(live.events[-1], ("fall", 1, (2, 1)))
        keeps(self, InvalidDeed, -1, live.do_event, in_lists(EVENTS[0]))


if __name__ == "__main__":
    unittest.main()
