"""[73], [74]: the desk."""

import copy
import unittest

from helpers import chance, keeps, odd_values, same
from test_house import COMPARERS, EVENTS, RULE, house_word, some_fall
from test_live import state_of
from worlds import some_event
from whoiswho.deeds import told_people
from whoiswho.desk import Desk
from whoiswho.errors import InvalidComparer, InvalidCommand, InvalidDeed, InvalidEvents, InvalidIndex, InvalidSize, InvalidVector, NoHouse
from whoiswho.errors import Refused, WhoError
from whoiswho.live import Live
from whoiswho.looks import make_look, wrong_looks
from whoiswho.texts import read_thing, thing_text
from worlds import marks_of, plain_lot

OPEN = "open 2 'edits' 'apart'"
RULE_TEXT = thing_text(RULE)


def opened(lines=()):
    desk = Desk()
    for line in (OPEN,) + tuple(lines):
        desk.say(line)
    return desk


def line_of(choice, event):
    """A command by which a desk does an event."""
    word = event[0]
    if word == "do" and choice.random() < 0.7 and event[2][0] in ("put", "same", "unlike", "back"):
        things = [event[1]] + (list(event[2][1]) if event[2][0] == "put" else list(event[2][1:]))
        if event[2][0] in ("same", "unlike") and choice.random() < 0.5:
            things = [things[0], things[2], things[1]]
        return " ".join([event[2][0]] + [thing_text(thing) for thing in things])
    return " ".join([word] + [thing_text(thing) for thing in event[1:]])


class DeskTest(unittest.TestCase):
    def check(self, desk, live):
        """All that is shown is what a Live tells in which the same was done."""
        self.assertTrue(same(state_of(desk.live.whole), state_of(live.whole)))
        self.assertTrue(same(desk.live.events, live.events))
        lines = desk.say("events")
        if live.events:
            self.assertTrue(same(tuple(read_thing(line) for line in lines.split("\n")), live.events))
        else:
            self.assertEqual(lines, "none")
        for house in range(live.houses):
            people = live.whole.people_of(house)
            self.assertEqual(desk.say("people %d" % house), thing_text(people))
            vector = read_thing(desk.say("vector %d" % house))
            self.assertTrue(same(vector, live.whole.vector_of(house)))
            self.assertTrue(same(told_people(plain_lot(live.whole.world.book, marks_of(vector))), people))

    def check_asked(self, choice, desk, live, judge):
        house = choice.randrange(live.houses)
        number = choice.randint(0, len(live.events))
        self.assertTrue(same(read_thing(desk.say("then %d %d" % (house, number))), live.people_then(number)[house]))
        if live.events:
            number, event = choice.randrange(len(live.events)), choice.choice(live.events + (("write", 0), None))
            many, people = live.people_if(number, event)
            self.assertTrue(same(read_thing(desk.say("if %d %d %s" % (house, number, thing_text(event)))), (many, people[house])))
        names, links, bars = live.whole.web_of(house)
        if len(names) > 1:
            one, other = choice.sample(names, 2)
            shown = desk.say("why %d %s %s" % (house, thing_text(one), thing_text(other)))
            self.assertTrue(same(read_thing(shown), make_look("pair", (names, links, bars, one, other))))
            self.assertEqual(judge.say("judge " + shown), "()")
            self.assertEqual(judge.say("judge 3 " + shown + " ('pair' () ())"), "(0 2)")

    def test_rows_of_lines(self):
        choice = chance(73)
        found = {}
        for _ in range(15):
            desk, live, judge = Desk(), Live(2, COMPARERS), Desk()
            judge.say("open 1 'exact'")
            self.assertEqual(desk.say(OPEN), "yes")
            for _ in range(25):
                if choice.random() < 0.25:
                    word = choice.choice(["undo", "undo", "redo"])
                    told = {"undo": live.undo_event, "redo": live.redo_event}[word]()
                    self.assertEqual(desk.say(word), "yes" if told else "no")
                    found[(word, told)] = found.get((word, told), 0) + 1
                else:
                    state = state_of(live.whole)
                    event = some_fall(choice, state) if choice.random() < 0.15 else some_event(choice, state, house_word)
                    line = line_of(choice, event)
                    try:
                        told = live.do_event(event)
                    except WhoError as error:
                        keeps(self, type(error), list(vars(error).values())[0], desk.say, line)
                        found["wrong"] = found.get("wrong", 0) + 1
                    else:
                        self.assertEqual(desk.say(line), thing_text(told))
                self.check(desk, live)
            self.check_asked(choice, desk, live, choice.choice([desk, judge]))
        self.assertGreater(found["wrong"], 5)
        self.assertEqual(len([key for key in found if key != "wrong"]), 4)

    def test_by_hand(self):
        desk = Desk()
        self.assertIsNone(desk.live)
        self.assertEqual(desk.say("open 2 'edits' 'apart'"), "yes")
        self.assertIsInstance(desk.live, Live)
        self.assertEqual((desk.live.houses, desk.live.comparers), (2, COMPARERS))
        lines = ["events", "undo", "redo", "put 0 'ann' 3", "do 0 ('rule' " + RULE_TEXT + ")", "write 0", "put 1 'anna' ?", "read 1 0", "vector 1",
                 "same 1 (1 0) (0 0)", "people 1", "people 0", "back 1 (1 1)", "unlike 1 (1 0) (0 0)", "fall 0 (1 0)", "vector 0"]
        told = ["none", "no", "no", "(0 0)", "(0 1)", "0", "(1 0)", "(2 1)", "(2 1)", "(1 1)", "(((0 0) (1 0)))", "(((0 0)))", "(1 2)", "(1 3)"]
        self.assertEqual([desk.say(line) for line in lines[:14]], told)
        self.assertEqual(desk.live.events[4], EVENTS[4])
        with self.assertRaises(Refused):
            desk.say(lines[14])
        self.assertEqual(desk.say("events").split("\n")[0], "('do' 0 ('put' ('ann' 3)))")
        self.assertEqual(len(desk.say("events").split("\n")), 8)
        self.assertEqual(desk.say("then 1 5"), "(((0 0)) ((1 0)))")
        self.assertEqual(desk.say("if 1 0 ('put' 0)"), "(0 ())")
        self.assertEqual(desk.say("if 1 1 ('write' 0)"), "(8 (((0 0)) ((1 0))))")
        self.assertEqual((desk.say("undo"), desk.say("redo"), desk.say("redo")), ("yes", "yes", "no"))
        # A new open forgets all.
        self.assertEqual((desk.say("open 1 'exact'"), desk.say("events"), desk.say("people 0")), ("yes", "none", "()"))

    def test_why_is_judged_by_any_desk(self):
        desk = opened(["put 0 'ann' 3", "put 0 'anna' 3", "put 0 'anna' 4", "put 0 'x' ?", "do 0 ('rule' " + RULE_TEXT + ")", "unlike 0 (0 2) (0 0)"])
        judge = Desk()
        judge.say("open 8 'exact' 'shared'")
        for one, other, word in (((0, 1), (0, 2), "one"), ((0, 0), (0, 1), "apart"), ((0, 0), (0, 3), "pieces")):
            shown = desk.say("why 0 %s %s" % (thing_text(one), thing_text(other)))
            look = read_thing(shown)
            self.assertEqual((look[0], look[2][0]), ("pair", word))
            self.assertEqual((desk.say("judge " + shown), judge.say("judge " + shown)), ("()", "()"))
            desk.say("put 0 'y' 3")
            self.assertEqual(judge.say("judge " + shown + " " + shown), "()")
            changed = shown.replace("'" + word + "'", "'one'" if word != "one" else "'apart'")
            self.assertEqual(judge.say("judge " + changed), "(0)")
            self.assertEqual(wrong_looks([look, read_thing(changed)]), (1,))

    def unchanged(self, desk, error, kept, line):
        before = copy.deepcopy([desk.live, desk.live and [desk.live.events, state_of(desk.live.whole)]][1:])
        live = desk.live
        keeps(self, error, kept, desk.say, line)
        self.assertIs(desk.live, live)
        self.assertEqual(before, [desk.live and [desk.live.events, state_of(desk.live.whole)]])

    def no_command(self, desk, line):
        live = desk.live
        with self.assertRaises(InvalidCommand):
            desk.say(line)
        self.assertIs(desk.live, live)

    def test_no_commands(self):
        lines = ["", " ", "undo ", " undo", "undo 0", "redo 1", "events 0", "people", "people ", "people 0 0", "people  0", "people 0 ", "people 00",
                 "people -0", "people +1", "people 0\n", "people\t0", "people 'a", "people (", "people )", "people ()(", "people 0) (0", "People 0",
                 "open", "open 2", "open 'exact'", "do 0", "do 0 ('day' ()) 0", "write", "write 0 0", "read 0", "read 0 0 0", "fall 0", "put 0", "put",
                 "same 0 (0 0)", "same 0 (0 0) (0 1) 0", "unlike 0", "back 0", "vector", "then 0", "if 0 0", "if 0 0 0 0", "why 0 (0 0)",
                 "why 0 (0 0) (0 1) 0", "judge", "look 0", "people 0 # all", "people None", "people True", "people 1.5", "put 0 \"a\"",
                 "judge " + "(" * 12 + ")" * 12, "put 0 'a\x7f' 3", "undo\n", "events\n", "? 0", "()", "people ,0", "people 0,"]
        for desk in (Desk(), opened(["put 0 'ann' 3"])):
            for line in lines:
                self.no_command(desk, line)
            for value in odd_values():
                self.no_command(desk, value)
        # Eleven brackets may be within one another.
        self.assertEqual(opened().say("judge " + "(" * 11 + ")" * 11), "(0)")
        for line in ("undo", "redo", "events", "people 0", "vector 0", "then 0 0", "if 0 0 ()", "why 0 (0 0) (0 1)", "judge 0", "put 0 'a'", "write 0",
                     "do 0 ('day' ())", "fall 0 (0)", "read 0 0", "same 0 (0 0) (0 1)", "unlike 0 (0 0) (0 1)", "back 0 (0 0)"):
            self.no_command(Desk(), line)

    def test_errors_of_what_is_done(self):
        desk = opened(["put 0 'ann' 3", "put 0 'ben' 3"])
        for line, error, kept in [
                ("open 0 'exact'", InvalidSize, "houses"), ("open '2' 'exact'", InvalidSize, "houses"), ("open 9 'exact'", InvalidSize, "houses"),
                ("open 1" + " 'exact'" * 7, InvalidSize, "comparers"), ("do 2 ()", NoHouse, 2), ("do ? ()", NoHouse, None), ("do 0 ()", InvalidDeed, -1),
                ("do 0 'put'", InvalidDeed, -1), ("put 0 'a'", InvalidDeed, -1), ("put 0 3 'a'", InvalidDeed, -1), ("put 2 'a'", NoHouse, 2),
                ("same 0 (0 0) (0 0)", InvalidDeed, -1), ("same 0 (0 0) (0 5)", InvalidDeed, -1), ("same 0 0 'a'", InvalidDeed, -1),
                ("same 0 (0 0) 'a'", InvalidDeed, -1), ("unlike 0 (0 1) (0 0 0)", InvalidDeed, -1),
                ("unlike 0 ? (0 0)", InvalidDeed, -1), ("unlike (0 0) 0 0", NoHouse, (0, 0)), ("back 0 (0 2)", InvalidDeed, -1), ("back 0 0", InvalidDeed, -1),
                ("write -1", NoHouse, -1), ("read 0 0", InvalidIndex, -1), ("read 3 'a'", NoHouse, 3), ("fall 0 (3 0)", InvalidVector, -1),
                ("fall 0 3", InvalidVector, -1), ("fall 0 (1 0)", Refused, 0), ("fall 5 3", NoHouse, 5), ("people 2", NoHouse, 2), ("people ?", NoHouse, None),
                ("vector (0)", NoHouse, (0,)), ("then 2 99", NoHouse, 2), ("then 0 3", InvalidIndex, -1), ("then 0 'a'", InvalidIndex, -1),
                ("if 2 99 ()", NoHouse, 2), ("if 0 2 ()", InvalidIndex, -1), ("if 0 -1 ()", InvalidIndex, -1), ("why 2 (0 0) (0 1)", NoHouse, 2),
                ("why 0 (0 5) (0 1)", InvalidIndex, 0), ("why 0 (0 0) (0 0)", InvalidIndex, 1), ("why 0 (0 0) ?", InvalidIndex, 1)]:
            self.unchanged(desk, error, kept, line)
        with self.assertRaises(InvalidComparer):
            desk.say("open 1 'edit'")
        fresh = Desk()
        keeps(self, InvalidSize, "houses", fresh.say, "open 0 'exact'")
        self.assertIsNone(fresh.live)
        self.assertEqual(desk.say("same 0 (0 1) (0 0)"), "(0 2)")
        self.assertEqual(desk.say(command="if 0 2 3"), "(2 (((0 0)) ((0 1))))")
        keeps(self, InvalidEvents, -1, desk.live.do_event, ("people", 0))
        with self.assertRaises(TypeError):
            iter(desk)
        with self.assertRaises(TypeError):
            len(desk)

    def test_texts(self):
        # Values with quotes, blanks and brackets in their texts.
        desk = Desk()
        desk.say("open 1 'exact' 'lists'")
        for value in ("it's", " ", "(", "') ('", "", "?", "a b"):
            self.assertEqual(desk.say("put 0 %s (%s)" % (thing_text(value), thing_text(value))), thing_text((0, len(desk.live.events) - 1)))
            self.assertEqual(desk.live.events[-1], ("do", 0, ("put", (value, (value,)))))
            self.assertEqual(read_thing(desk.say("events").split("\n")[-1]), desk.live.events[-1])
        big = 10 ** 399
        desk.say("put 0 %d ?" % big)
        self.assertEqual(desk.live.events[-1][2][1][0], big)


if __name__ == "__main__":
    unittest.main()
