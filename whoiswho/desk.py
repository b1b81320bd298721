"""A desk: houses by hand, asked and told in lines of text ([73], [74])."""

from whoiswho.books import is_mark
from whoiswho.errors import InvalidCommand, InvalidText, NoHouse
from whoiswho.live import Live
from whoiswho.looks import make_look, wrong_looks
from whoiswho.plain import is_below
from whoiswho.texts import read_thing, thing_text

# For each word how many things stand behind it, and whether there may be more.
FORMS = {
    "open": (2, True),
    "do": (2, False),
    "write": (1, False),
    "read": (2, False),
    "fall": (2, False),
    "put": (2, True),
    "same": (3, False),
    "unlike": (3, False),
    "back": (2, False),
    "undo": (0, False),
    "redo": (0, False),
    "events": (0, False),
    "people": (1, False),
    "vector": (1, False),
    "then": (2, False),
    "if": (3, False),
    "why": (3, False),
    "judge": (1, True),
}


def things_of(rest):
    """The things with these texts, one or more, one blank between two."""
    if rest == "":
        raise InvalidCommand()
    try:
        return read_thing("(" + rest + ")")
    except InvalidText:
        raise InvalidCommand()


def read_command(command):
    """(word, things) of any value, if it is a command."""
    if not isinstance(command, str):
        raise InvalidCommand()
    word, blank, rest = command.partition(" ")
    if word not in FORMS:
        raise InvalidCommand()
    things = things_of(rest) if blank == " " else ()
    many, may_be_more = FORMS[word]
    if len(things) < many or (len(things) > many and not may_be_more):
        raise InvalidCommand()
    return word, things


def deed_of(word, things):
    """The word of a house's deed; the marks of two records may come in any order."""
    if word == "put":
        return (word, things)
    if word in ("same", "unlike") and is_mark(things[0]) and is_mark(things[1]):
        return (word, min(things), max(things))
    return (word,) + things


def yes_or_no(truth):
    return "yes" if truth else "no"


class Desk:
    """Houses by hand, once they are opened, and what is said of them."""

    def __init__(self):
        self.live = None

    def say(self, command):
        """Does what a command says; tells what is shown."""
        word, things = read_command(command)
        if word == "open":
            self.live = Live(things[0], things[1:])
            return "yes"
        if self.live is None:
            raise InvalidCommand()
        if word in ("do", "write", "read", "fall"):
            return thing_text(self.live.do_event((word,) + things))
        if word in ("put", "same", "unlike", "back"):
            return thing_text(self.live.do_event(("do", things[0], deed_of(word, things[1:]))))
        if word == "undo":
            return yes_or_no(self.live.undo_event())
        if word == "redo":
            return yes_or_no(self.live.redo_event())
        if word == "events":
            return "\n".join([thing_text(event) for event in self.live.events]) if len(self.live.events) > 0 else "none"
        if word == "judge":
            return thing_text(wrong_looks(things))
        return thing_text(self.asked_of(word, things[0], things[1:]))

    def asked_of(self, word, house, things):
        """What is told of a house."""
        whole = self.live.whole
        if not is_below(house, self.live.houses):
            raise NoHouse(house)
        if word == "people":
            return whole.people_of(house)
        if word == "vector":
            return whole.vector_of(house)
        if word == "then":
            return self.live.people_then(things[0])[house]
        if word == "if":
            many, people = self.live.people_if(things[0], things[1])
            return many, people[house]
        names, links, bars = whole.web_of(house)
        return make_look("pair", (names, links, bars, things[0], things[1]))
