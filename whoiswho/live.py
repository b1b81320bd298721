"""Houses by hand: events that are taken back, done again, and thought of otherwise ([72])."""

from whoiswho.errors import InvalidIndex
from whoiswho.house import WhoHouse, house_behind
from whoiswho.moments import do_all
from whoiswho.plain import in_tuples, is_below


def people_of_all(whole, houses):
    """For each house the persons that it tells."""
    return tuple([whole.people_of(house) for house in range(houses)])


class Live:
    """Houses, and the events that were done in them."""

    def __init__(self, houses, comparers):
        self.whole = WhoHouse(houses, comparers)
        self.houses = houses
        self.comparers = tuple(comparers)
        self.events = ()
        self._undone = ()

    def do_event(self, event):
        """Does an event; tells what the houses tell."""
        told = self.whole.do_event(event)
        self.events = self.events + (in_tuples(event),)
        self._undone = ()
        return told

    def undo_event(self):
        """Takes back the last event; tells whether there was one."""
        if len(self.events) == 0:
            return False
        self._undone = self._undone + self.events[-1:]
        self.events = self.events[:-1]
        self.whole = house_behind(self.houses, self.comparers, self.events)
        return True

    def redo_event(self):
        """Does again the event that was taken back last; tells whether there was one."""
        if len(self._undone) == 0:
            return False
        self.whole.do_event(self._undone[-1])
        self.events = self.events + self._undone[-1:]
        self._undone = self._undone[:-1]
        return True

    def all_people(self):
        """For each house the persons that it tells."""
        return people_of_all(self.whole, self.houses)

    def people_then(self, number):
        """For each house the persons that it told behind so many events."""
        if not is_below(number, len(self.events) + 1):
            raise InvalidIndex(-1)
        return people_of_all(house_behind(self.houses, self.comparers, self.events[:number]), self.houses)

    def people_if(self, number, event):
        """(how many events can be done, all houses' persons) if the event of this number had been this one."""
        if not is_below(number, len(self.events)):
            raise InvalidIndex(-1)
        whole = WhoHouse(self.houses, self.comparers)
        many = do_all(whole, self.events[:number] + (event,) + self.events[number + 1:])
        return many, people_of_all(whole, self.houses)
