"""The houses as a whole: what each does, hears and tells, its people kept along ([69], [70])."""

from whoiswho.books import fault_of, first_deeds, is_vector
from whoiswho.comparing import need_comparer
from whoiswho.deeds import is_rule, web_told
from whoiswho.errors import InvalidDeed, InvalidEvents, InvalidSize, InvalidVector, NoHouse, Refused
from whoiswho.keeping import Keeping
from whoiswho.moments import World, do_all, first_greater, lot_of, told_from
from whoiswho.papers import people_paper
from whoiswho.plain import is_below, is_row_of, is_sequence
from whoiswho.rules import are_taken, comparers_of

MOST_COMPARERS = 6


def need_comparers(comparers):
    """A sequence of a few comparers as a tuple."""
    if not is_sequence(comparers) or not 1 <= len(comparers) <= MOST_COMPARERS:
        raise InvalidSize("comparers")
    for comparer in comparers:
        need_comparer(comparer)
    return tuple(comparers)


def is_event_of(event, word):
    """Whether any value is a sequence of an event's word and two things."""
    return is_row_of(event, 3) and isinstance(event[0], str) and event[0] == word


def is_fit(word, comparers):
    """Whether any value is no put, change or rule of other fields than of these comparers."""
    if not isinstance(word, tuple) or len(word) < 2 or not isinstance(word[0], str):
        return True
    if word[0] in ("put", "change"):
        return are_taken(comparers, word[-1])
    return word[0] != "rule" or (is_rule(word[1]) and comparers_of(word[1]) == comparers)


def missing(rows, others):
    """In order, the rows that are none of the others."""
    return [row for row in rows if row not in others]


def keep_web(kept, web):
    """Makes a web of what is kept; tells how many fates were reckoned anew."""
    names, links, bars = web
    elder, elder_links, elder_bars = kept.told_names(), kept.told_links(), kept.told_bars()
    anew = 0
    for one, other in missing(elder_bars, bars):
        anew += kept.take_bar(one, other)
    for _, one, other in missing(elder_links, links):
        anew += kept.take_link(one, other)
    for name in missing(elder, names):
        kept.take_name(name)
    for name in missing(names, elder):
        kept.put_name(name)
    for one, other in missing(bars, elder_bars):
        anew += kept.put_bar(one, other)
    for weight, one, other in missing(links, elder_links):
        anew += kept.put_link(weight, one, other)
    return anew


class WhoHouse:
    """A world whose records and rules have the fields of some comparers, and each house's people, kept along."""

    def __init__(self, houses, comparers):
        self.world = World(houses)
        self.anew = 0
        self._comparers = need_comparers(comparers)
        self._kept = [Keeping((), (), ()) for _ in range(houses)]
        self._known = {}

    def do_event(self, event):
        """Does an event; tells a deed's mark, a letter's number or a vector."""
        if is_event_of(event, "fall"):
            told = self.fall_back(event[1], event[2])
        else:
            if is_event_of(event, "do") and self.has_house(event[1]) and not is_fit(event[2], self._comparers):
                raise InvalidDeed(-1)
            told = self.world.do_event(event)
        house = event[1]
        book = first_deeds(self.world.book, self.world.vectors[house])
        self.anew = keep_web(self._kept[house], web_told(lot_of(book), self._known))
        return told

    def fall_back(self, house, vector):
        """Gives a house a vector that counts no more than its own, and tells it."""
        self.need_house(house)
        told = tuple(vector) if is_sequence(vector) else ()
        own = self.world.vectors[house]
        if not is_vector(told, len(own)) or first_greater(told, own) is not None:
            raise InvalidVector(-1)
        if told[house] < own[house] or fault_of(first_deeds(self.world.book, told)) is not None:
            raise Refused(house)
        return self.world.put_vector(house, told)

    def has_house(self, house):
        return is_below(house, len(self._kept))

    def need_house(self, house):
        if not self.has_house(house):
            raise NoHouse(house)

    def vector_of(self, house):
        """How many deeds of each house a house knows."""
        self.need_house(house)
        return self.world.vectors[house]

    def people_of(self, house):
        """The persons that a house tells, kept along."""
        self.need_house(house)
        return self._kept[house].told_people()

    def web_of(self, house):
        """(names, links in order, bars ascending) over what a house knows."""
        self.need_house(house)
        kept = self._kept[house]
        return kept.told_names(), kept.told_links(), kept.told_bars()

    def paper_of(self, house):
        """A paper of the persons that a house tells."""
        names, links, bars = self.web_of(house)
        return people_paper(names, links, bars)

    def from_nothing(self, house):
        """The persons over what a house knows, reckoned from nothing."""
        self.need_house(house)
        return told_from(self.world.book, self.world.vectors[house])


def house_behind(houses, comparers, events):
    """The houses behind events."""
    whole = WhoHouse(houses, comparers)
    if not is_sequence(events):
        raise InvalidEvents(-1)
    many = do_all(whole, events)
    if many < len(events):
        raise InvalidEvents(many)
    return whole
